/- command: Get and the document's own Get. -/
import Derived.Test.YtjbekphjhmlloaaDoorCmdWalk4
namespace Go.Proofs.YtjbekphjhmlloaaDoor
open Go.RowKit
set_option linter.unusedVariables false
set_option linter.unusedSimpArgs false

/-- A command in memory, at block b. -/
structure CmdAt (w : World) (b : Nat) (x : Cmd) : Prop where
  c0 : w.cell? ⟨b, 0, none⟩ = some (.int .i64 x.op)
  c1 : w.cell? ⟨b, 1, none⟩ = some (.string x.n)
  c2 : w.cell? ⟨b, 2, none⟩ = some (.string x.o)
  c3 : w.cell? ⟨b, 3, none⟩ = some (.int .i64 x.a)
  c4 : w.cell? ⟨b, 4, none⟩ = some (.int .i64 x.c)
  c5 : w.cell? ⟨b, 5, none⟩ = some (.string x.d)
  f0 : w.frozen? ⟨b, 0, none⟩ = false
  f1 : w.frozen? ⟨b, 1, none⟩ = false
  f2 : w.frozen? ⟨b, 2, none⟩ = false
  f3 : w.frozen? ⟨b, 3, none⟩ = false
  f4 : w.frozen? ⟨b, 4, none⟩ = false
  f5 : w.frozen? ⟨b, 5, none⟩ = false
  lt : b < w.heap.size
theorem CmdAt.heap {w w' : World} {b : Nat} {x : Cmd} (h : CmdAt w b x) (e : w'.heap[b]? = w.heap[b]?) (hs : w.heap.size ≤ w'.heap.size) : CmdAt w' b x :=
  ⟨by rw [cell_of_heap e]; exact h.c0, by rw [cell_of_heap e]; exact h.c1, by rw [cell_of_heap e]; exact h.c2, by rw [cell_of_heap e]; exact h.c3, by rw [cell_of_heap e]; exact h.c4, by rw [cell_of_heap e]; exact h.c5, by rw [frozen_of_heap e]; exact h.f0, by rw [frozen_of_heap e]; exact h.f1, by rw [frozen_of_heap e]; exact h.f2, by rw [frozen_of_heap e]; exact h.f3, by rw [frozen_of_heap e]; exact h.f4, by rw [frozen_of_heap e]; exact h.f5, Nat.lt_of_lt_of_le h.lt hs⟩
theorem CmdAt.rd {w w' : World} {b c : Nat} {s : ByteArray} {bad : Bool} {x : Cmd} (h : CmdAt w c x) (hr : RdTo w b s bad w') (hne : c ≠ b) : CmdAt w' c x := h.heap (hr.oth _ h.lt hne) hr.size
theorem CmdAt.below {w w' : World} {B c : Nat} {x : Cmd} (h : CmdAt w c x) (hr : Below B w w') (hB : c < B) : CmdAt w' c x := h.heap (hr.block _ hB) hr.size
theorem CmdAt.other {w : World} {b o : Nat} {c : Nat} {x : Cmd} (h : CmdAt w c x) (v : Value) (hne : c ≠ b) : CmdAt (w.setCell ⟨b, o, none⟩ v) c x := h.heap (Below.heap_setCell _ _ _ _ (by simpa using hne)) (by simp)
theorem CmdAt.set0 {w : World} {c : Nat} {x : Cmd} (h : CmdAt w c x) (t : Int) : CmdAt (w.setCell ⟨c, 0, none⟩ (.int .i64 t)) c { x with op := t } :=
  ⟨World.cell?_setCell_same' w _ _ (by rw [h.c0]; rfl), by rw [World.cell?_setCell_other w _ _ _ (by simp)]; exact h.c1, by rw [World.cell?_setCell_other w _ _ _ (by simp)]; exact h.c2, by rw [World.cell?_setCell_other w _ _ _ (by simp)]; exact h.c3, by rw [World.cell?_setCell_other w _ _ _ (by simp)]; exact h.c4, by rw [World.cell?_setCell_other w _ _ _ (by simp)]; exact h.c5, by rw [World.frozen?_setCell]; exact h.f0, by rw [World.frozen?_setCell]; exact h.f1, by rw [World.frozen?_setCell]; exact h.f2, by rw [World.frozen?_setCell]; exact h.f3, by rw [World.frozen?_setCell]; exact h.f4, by rw [World.frozen?_setCell]; exact h.f5, by simpa using h.lt⟩
theorem CmdAt.set1 {w : World} {c : Nat} {x : Cmd} (h : CmdAt w c x) (t : ByteArray) : CmdAt (w.setCell ⟨c, 1, none⟩ (.string t)) c { x with n := t } :=
  ⟨by rw [World.cell?_setCell_other w _ _ _ (by simp)]; exact h.c0, World.cell?_setCell_same' w _ _ (by rw [h.c1]; rfl), by rw [World.cell?_setCell_other w _ _ _ (by simp)]; exact h.c2, by rw [World.cell?_setCell_other w _ _ _ (by simp)]; exact h.c3, by rw [World.cell?_setCell_other w _ _ _ (by simp)]; exact h.c4, by rw [World.cell?_setCell_other w _ _ _ (by simp)]; exact h.c5, by rw [World.frozen?_setCell]; exact h.f0, by rw [World.frozen?_setCell]; exact h.f1, by rw [World.frozen?_setCell]; exact h.f2, by rw [World.frozen?_setCell]; exact h.f3, by rw [World.frozen?_setCell]; exact h.f4, by rw [World.frozen?_setCell]; exact h.f5, by simpa using h.lt⟩
theorem CmdAt.set2 {w : World} {c : Nat} {x : Cmd} (h : CmdAt w c x) (t : ByteArray) : CmdAt (w.setCell ⟨c, 2, none⟩ (.string t)) c { x with o := t } :=
  ⟨by rw [World.cell?_setCell_other w _ _ _ (by simp)]; exact h.c0, by rw [World.cell?_setCell_other w _ _ _ (by simp)]; exact h.c1, World.cell?_setCell_same' w _ _ (by rw [h.c2]; rfl), by rw [World.cell?_setCell_other w _ _ _ (by simp)]; exact h.c3, by rw [World.cell?_setCell_other w _ _ _ (by simp)]; exact h.c4, by rw [World.cell?_setCell_other w _ _ _ (by simp)]; exact h.c5, by rw [World.frozen?_setCell]; exact h.f0, by rw [World.frozen?_setCell]; exact h.f1, by rw [World.frozen?_setCell]; exact h.f2, by rw [World.frozen?_setCell]; exact h.f3, by rw [World.frozen?_setCell]; exact h.f4, by rw [World.frozen?_setCell]; exact h.f5, by simpa using h.lt⟩
theorem CmdAt.set3 {w : World} {c : Nat} {x : Cmd} (h : CmdAt w c x) (t : Int) : CmdAt (w.setCell ⟨c, 3, none⟩ (.int .i64 t)) c { x with a := t } :=
  ⟨by rw [World.cell?_setCell_other w _ _ _ (by simp)]; exact h.c0, by rw [World.cell?_setCell_other w _ _ _ (by simp)]; exact h.c1, by rw [World.cell?_setCell_other w _ _ _ (by simp)]; exact h.c2, World.cell?_setCell_same' w _ _ (by rw [h.c3]; rfl), by rw [World.cell?_setCell_other w _ _ _ (by simp)]; exact h.c4, by rw [World.cell?_setCell_other w _ _ _ (by simp)]; exact h.c5, by rw [World.frozen?_setCell]; exact h.f0, by rw [World.frozen?_setCell]; exact h.f1, by rw [World.frozen?_setCell]; exact h.f2, by rw [World.frozen?_setCell]; exact h.f3, by rw [World.frozen?_setCell]; exact h.f4, by rw [World.frozen?_setCell]; exact h.f5, by simpa using h.lt⟩
theorem CmdAt.set4 {w : World} {c : Nat} {x : Cmd} (h : CmdAt w c x) (t : Int) : CmdAt (w.setCell ⟨c, 4, none⟩ (.int .i64 t)) c { x with c := t } :=
  ⟨by rw [World.cell?_setCell_other w _ _ _ (by simp)]; exact h.c0, by rw [World.cell?_setCell_other w _ _ _ (by simp)]; exact h.c1, by rw [World.cell?_setCell_other w _ _ _ (by simp)]; exact h.c2, by rw [World.cell?_setCell_other w _ _ _ (by simp)]; exact h.c3, World.cell?_setCell_same' w _ _ (by rw [h.c4]; rfl), by rw [World.cell?_setCell_other w _ _ _ (by simp)]; exact h.c5, by rw [World.frozen?_setCell]; exact h.f0, by rw [World.frozen?_setCell]; exact h.f1, by rw [World.frozen?_setCell]; exact h.f2, by rw [World.frozen?_setCell]; exact h.f3, by rw [World.frozen?_setCell]; exact h.f4, by rw [World.frozen?_setCell]; exact h.f5, by simpa using h.lt⟩
theorem CmdAt.set5 {w : World} {c : Nat} {x : Cmd} (h : CmdAt w c x) (t : ByteArray) : CmdAt (w.setCell ⟨c, 5, none⟩ (.string t)) c { x with d := t } :=
  ⟨by rw [World.cell?_setCell_other w _ _ _ (by simp)]; exact h.c0, by rw [World.cell?_setCell_other w _ _ _ (by simp)]; exact h.c1, by rw [World.cell?_setCell_other w _ _ _ (by simp)]; exact h.c2, by rw [World.cell?_setCell_other w _ _ _ (by simp)]; exact h.c3, by rw [World.cell?_setCell_other w _ _ _ (by simp)]; exact h.c4, World.cell?_setCell_same' w _ _ (by rw [h.c5]; rfl), by rw [World.frozen?_setCell]; exact h.f0, by rw [World.frozen?_setCell]; exact h.f1, by rw [World.frozen?_setCell]; exact h.f2, by rw [World.frozen?_setCell]; exact h.f3, by rw [World.frozen?_setCell]; exact h.f4, by rw [World.frozen?_setCell]; exact h.f5, by simpa using h.lt⟩
theorem RdAt.setO {w : World} {b c o : Nat} {s : ByteArray} {bad : Bool} (h : RdAt w b s bad) (v : Value) (hne : b ≠ c) : RdAt (w.setCell ⟨c, o, none⟩ v) b s bad := by
  have e : (w.setCell ⟨c, o, none⟩ v).heap[b]? = w.heap[b]? := Below.heap_setCell _ _ _ _ (by simpa using hne)
  exact ⟨by rw [cell_of_heap e]; exact h.c0, by rw [cell_of_heap e]; exact h.c1, by rw [frozen_of_heap e]; exact h.f0, by rw [frozen_of_heap e]; exact h.f1, by simpa using h.lt⟩
theorem CmdAt.made (w : World) (x : Cmd) (T : TypeId) : CmdAt (w.alloc (.cells #[.int .i64 x.op, .string x.n, .string x.o, .int .i64 x.a, .int .i64 x.c, .string x.d] T)) w.heap.size x :=
  ⟨by rw [World.cell?_alloc_mark]; rfl, by rw [World.cell?_alloc_mark]; rfl, by rw [World.cell?_alloc_mark]; rfl, by rw [World.cell?_alloc_mark]; rfl, by rw [World.cell?_alloc_mark]; rfl, by rw [World.cell?_alloc_mark]; rfl, frozen_of_row _ _ _ _ _ (heap_alloc_new _ _), frozen_of_row _ _ _ _ _ (heap_alloc_new _ _), frozen_of_row _ _ _ _ _ (heap_alloc_new _ _), frozen_of_row _ _ _ _ _ (heap_alloc_new _ _), frozen_of_row _ _ _ _ _ (heap_alloc_new _ _), frozen_of_row _ _ _ _ _ (heap_alloc_new _ _), by simp⟩
def Gets (w : World) (s : ByteArray) (e : Ending) (w' : World) : Prop := e = .returned (.tuple #[(getC s).v, .int .i64 (getE s)]) ∧ Below w.heap.size w w'
theorem step_size (p : PSt) (f : Nat) : (stepF p f).s.size ≤ p.s.size := by
  have a1 := Rm.numR_size p.s p.b 1
  have a2 := Rm.numR_size p.s p.b 2
  have a6 := Rm.numR_size p.s p.b 6
  have b1 : (rdTR p.s p.b 1).size ≤ p.s.size := Nat.le_trans (Rm.txtR_size _ _ _) a1
  have b2 : (rdTR p.s p.b 2).size ≤ p.s.size := Nat.le_trans (Rm.txtR_size _ _ _) a2
  unfold stepF
  split
  · exact b1
  split
  · exact b1
  split
  · exact a6
  split
  · exact a6
  split
  · exact b2
  exact Nat.le_refl _
theorem fold_size (r : List Nat) : ∀ p : PSt, (r.foldl stepF p).s.size ≤ p.s.size := by
  induction r with
  | nil => intro p; exact Nat.le_refl _
  | cons f r ih => intro p; exact Nat.le_trans (ih _) (step_size p f)
theorem pSt0_size (s : ByteArray) : (pSt0 s).s.size ≤ s.size := Rm.numR_size s false 1
theorem fold_op (r : List Nat) : ∀ p : PSt, (r.foldl stepF p).x.op = p.x.op := by
  induction r with
  | nil => intro p; rfl
  | cons f r ih => intro p; rw [List.foldl_cons, ih, step_op]
theorem zero_v : noCmd.v = .agg #[.int .i64 0, .string ⟨#[]⟩, .string ⟨#[]⟩, .int .i64 0, .int .i64 0, .string ⟨#[]⟩] := rfl
theorem get_bad (w : World) (s : ByteArray) (h : Hid (getB s = false)) (W : World) (hb : Below w.heap.size w W) : Gets w s (.returned (.tuple #[.agg #[.int .i64 0, .string ⟨#[]⟩, .string ⟨#[]⟩, .int .i64 0, .int .i64 0, .string ⟨#[]⟩], .int .i64 200])) W :=
  ⟨by rw [getC, getE, h.out]; rfl, hb⟩
theorem res_get {tm : Array Value} {W : World} {b : Nat} {x : Cmd} {n : Int} (h : CmdAt W b x) (h2 : tm.getD 2 undef = .pointer (some ⟨b, 0, none⟩)) (h3 : tm.getD 3 undef = .int .i64 n) :
    (results Tryd.f11 tm).run Tryd.prog W = .ok (.tuple #[x.v, .int .i64 n]) W := by
  have h2' : tm[2]?.getD undef = .pointer (some ⟨b, 0, none⟩) := by simpa using h2
  have h3' : tm[3]?.getD undef = .int .i64 n := by simpa using h3
  simp [results, Tryd.results11, go_sem, h2', h3', h.c0, h.c1, h.c2, h.c3, h.c4, h.c5, Cmd.v]
set_option maxRecDepth 100000 in
set_option maxHeartbeats 4000000 in
theorem cget_any (s : ByteArray) (w : World) (hF : Flds w) (hs : s.size ≤ 140737488355328) : Calls Tryd.prog 11 #[.string s] w (Gets w s) := by
  have hp0 := Rm.numR_size s false 1
  obtain ⟨i, hi⟩ : ∃ i, i = numV s false 1 := ⟨_, rfl⟩
  have hi256 : i < 256 := by rw [hi]; exact Rm.numV_lt s false 1
  have hop : (parse s).x.op = (i : Int) := by rw [parse_op, hi]
  have c1 := fun W b h => rdnum_any b s false 1 W h (by omega)
  rw [← hi] at c1
  have hparse : parse s = (rowOf i).foldl stepF (pSt0 s) := by rw [parse, ← hi]
  have hp0x : (pSt0 s) = ⟨{ noCmd with op := (i : Int) }, numR s false 1, !okN s false 1⟩ := by rw [pSt0, ← hi]
  clear hi
  have hbw : Below w.heap.size w (w.alloc (.cells #[.int .i64 0, .string ⟨#[]⟩, .string ⟨#[]⟩, .int .i64 0, .int .i64 0, .string ⟨#[]⟩] 23)) := (Below.refl _ _).alloc (Nat.le_refl _) _
  have z0 := CmdAt.made w noCmd 23
  skip
  have hltF := hF.lt
  go_enter Tryd.func11, Tryd.ntmps11
  go_wp2_with (fail)
  refine (new_any s _).mono ?_
  rintro e w1 ⟨rfl, hw1⟩
  obtain ⟨w0, hw0⟩ : ∃ W, w.alloc (.cells #[.int .i64 0, .string ⟨#[]⟩, .string ⟨#[]⟩, .int .i64 0, .int .i64 0, .string ⟨#[]⟩] 23) = W := ⟨_, rfl⟩
  have hz0 : w0.heap.size = w.heap.size + 1 := by rw [← hw0]; simp
  rw [hw0] at hw1 hbw
  have z0' : CmdAt w0 w.heap.size noCmd := by rw [← hw0]; exact z0
  clear z0
  have r1 : RdAt w1 w0.heap.size s false := by rw [hw1]; exact RdAt.made _ _ _
  have b1 : Below w0.heap.size w0 w1 := by rw [hw1]; exact (Below.refl _ _).alloc (Nat.le_refl _) _
  have hz1 : w1.heap.size = w.heap.size + 2 := by rw [hw1]; simp; omega
  try rw [hw0]
  rw [hz0] at r1 b1
  skip
  clear hw1 hw0
  have z1 := z0'.below b1 (by omega)
  have hB1 : Below w.heap.size w w1 := hbw.trans (b1.mono (by omega))
  clear z0' b1 hbw
  go_wp2_with (fail)
  refine (c1 _ _ r1).mono ?_
  rintro e w2 ⟨rfl, r2⟩
  have hB2 : Below w.heap.size w w2 := hB1.trans (r2.below (by omega) (by omega))
  have z2 := z1.rd r2 (by omega)
  have hs2 := r2.r.lt
  have x3 := CmdAt.made w2 { noCmd with op := (i : Int) } 23
  have b3 : Below w2.heap.size w2 (w2.alloc (.cells #[.int .i64 (i : Int), .string ⟨#[]⟩, .string ⟨#[]⟩, .int .i64 0, .int .i64 0, .string ⟨#[]⟩] 23)) := (Below.refl _ _).alloc (Nat.le_refl _) _
  have r3 := r2.r.below b3 hs2
  have z3 := z2.below b3 (by omega)
  have hB3 : Below w.heap.size w (w2.alloc (.cells #[.int .i64 (i : Int), .string ⟨#[]⟩, .string ⟨#[]⟩, .int .i64 0, .int .i64 0, .string ⟨#[]⟩] 23)) := hB2.trans (b3.mono (by omega))
  clear r1 z1 hB1 c1 z2 r2 b3
  generalize hss : numR s false 1 = ss at *
  generalize hbb : (!okN s false 1) = bb at *
  obtain ⟨cb, hcb⟩ : ∃ cb, w2.heap.size = cb := ⟨_, rfl⟩
  go_wp2_with (fail)
  refine (isop_any _ _).mono ?_
  rintro e wq ⟨rfl, rfl⟩
  have x3' : CmdAt (w2.alloc (.cells #[.int .i64 (i : Int), .string ⟨#[]⟩, .string ⟨#[]⟩, .int .i64 0, .int .i64 0, .string ⟨#[]⟩] 23)) cb { noCmd with op := (i : Int) } := by rw [← hcb]; exact x3
  clear x3
  generalize hw3 : w2.alloc (.cells #[.int .i64 (i : Int), .string ⟨#[]⟩, .string ⟨#[]⟩, .int .i64 0, .int .i64 0, .string ⟨#[]⟩] 23) = w3 at *
  rw [hcb] at hs2
  try rw [hcb]
  clear hw3 hss hbb
  have hcbw : w.heap.size + 1 < cb := hs2
  clear hcb hB2
  cases ho : isOpB (i : Int) with
  | false =>
    have hz : Hid (getB s = false) := Lib.hid (by rw [getB, hop, ho]; rfl)
    have hBz := hB3.size
    clear ho hop hparse hp0x x3'
    have hfin := (((((z3.set0 0).set1 ⟨#[]⟩).set2 ⟨#[]⟩).set3 0).set4 0).set5 ⟨#[]⟩
    obtain ⟨v0, v1, v2, v3, v4, v5, g0, g1, g2, g3, g4, g5, vl⟩ := z3
    go_wp2_with (fail)
    refine bodyPost_ret (res_get hfin rfl rfl) rfl (get_bad w s hz _ ?_)
    exact (((((hB3.setCell (Nat.le_refl _) _).setCell (Nat.le_refl _) _).setCell (Nat.le_refl _) _).setCell (Nat.le_refl _) _).setCell (Nat.le_refl _) _).setCell (Nat.le_refl _) _
  | true =>
    have hi19 : 1 ≤ i ∧ i ≤ 9 := by have : (1 : Int) ≤ (i : Int) ∧ (i : Int) ≤ 9 := of_decide_eq_true ho; omega
    have hpt : pSt0 s = ⟨{ noCmd with op := (i : Int) }, ss, bb⟩ := hp0x
    obtain ⟨f0, f1, f2, hr, hx0, hy0, hz0'⟩ := row_form i
    have hidx : ∀ k : Nat, k < 3 → ∀ W, (Instr.index 42 (.agg #[.int .i64 (f0 : Int), .int .i64 (f1 : Int), .int .i64 (f2 : Int)]) (.int .i64 (k : Int))).run Tryd.prog W = .ok (.int .i64 (((rowOf i).getD k 0 : Nat) : Int)) W := by
      intro k hk W
      rw [hr]
      rcases (by omega : k = 0 ∨ k = 1 ∨ k = 2) with rfl | rfl | rfl <;> kernel_rfl
    have hn := row_nth i
    have hF3 := hF.keep hB3 hltF
    have d0 := hF3.c i 0 (by omega) (by omega)
    have d1 := hF3.c i 1 (by omega) (by omega)
    have d2 := hF3.c i 2 (by omega) (by omega)
    rw [hr] at d0 d1 d2
    simp only [Nat.add_zero, List.getD_cons_zero, List.getD_cons_succ] at d0 d1 d2
    have x3c := x3'.c0
    have hsf := fold_size
    have hso : ∀ k, ((rowOf i).take k).foldl stepF (pSt0 s) = ((rowOf i).take k).foldl stepF ⟨{ noCmd with op := (i : Int) }, ss, bb⟩ := fun k => by rw [hpt]
    have hP3 := hparse
    rw [hpt] at hP3
    have HOP := Lib.hid hop
    have HO := Lib.hid ho
    clear hso hr hpt hparse hp0x hop
    go_wp2_with (fail)
    clear d0 d1 d2 x3c
    obtain ⟨p0, hp0'⟩ : ∃ p : PSt, p = ⟨{ noCmd with op := (i : Int) }, ss, bb⟩ := ⟨_, rfl⟩
    have hps : ∀ r : List Nat, (r.foldl stepF p0).s.size ≤ 140737488355328 := fun r => Nat.le_trans (hsf r p0) (by rw [hp0']; show ss.size ≤ _; omega)
    rw [← hp0'] at hP3
    have x0 : CmdAt w3 cb p0.x := by rw [hp0']; exact x3'
    have r0 : RdAt w3 (w.heap.size + 1) p0.s p0.b := by rw [hp0']; exact r3
    clear hp0' x3' r3 hsf ho
    go_loopw [22] (fun t wr => ∃ (k : Nat) (p : PSt), k ≤ 3 ∧ t = .int .i64 (k : Int) ∧ p = ((rowOf i).take k).foldl stepF p0 ∧ RdAt wr (w.heap.size + 1) p.s p.b ∧ CmdAt wr cb p.x ∧ CmdAt wr w.heap.size noCmd ∧ Below w.heap.size w wr) (fun t _ => 3 - (intOf t).toNat)
    case atStart => exact ⟨0, p0, by omega, rfl, rfl, r0, x0, z3, hB3⟩
    case round =>
      obtain ⟨k, p, hk, rfl, hp, hr, hc, hz, hB⟩ := hrel
      have hBs := hB.size
      have hsz := hps ((rowOf i).take k)
      rw [← hp] at hsz
      by_cases hk3 : k < 3
      · have t3 : (k : Int) < 3 := by omega
        have hix := hidx k hk3
        have hf := (hn k hk3).1
        have HS : Hid (((rowOf i).take (k + 1)).foldl stepF p0 = stepF p ((rowOf i).getD k 0)) := Lib.hid (by rw [(hn k hk3).2, List.foldl_append, ← hp]; rfl)
        clear hidx hn hk3 hp hps hP3 r0 x0 z3 hB3
        generalize (rowOf i).getD k 0 = f at *
        obtain ⟨x, s1, b1⟩ := p
        have hlt := hr.lt
        simp only at hr hc hsz
        rcases (by omega : f = 0 ∨ f = 1 ∨ f = 2 ∨ f = 3 ∨ f = 4 ∨ f = 5) with rfl | rfl | rfl | rfl | rfl | rfl
        · go_wp2_with (fail)
          go_roundw
          case rel => exact ⟨k + 1, ⟨x, s1, b1⟩, by omega, by go_num, by rw [HS.out]; rfl, hr, hc, hz, hB⟩
          case measure => simp [intOf]; omega
        · have n1 := rdnum_any (w.heap.size + 1) s1 b1 1 wr hr (by omega)
          have n2 := fun W h => rdtext_any (w.heap.size + 1) (numR s1 b1 1) (!okN s1 b1 1) ((numV s1 b1 1 : Nat) : Int) W h (Nat.le_trans (Rm.numR_size _ _ _) (by omega))
          have HP : Hid (stepF ⟨x, s1, b1⟩ 1 = ⟨{ x with n := txtS (numR s1 b1 1) (!okN s1 b1 1) ((numV s1 b1 1 : Nat) : Int) }, txtR (numR s1 b1 1) (!okN s1 b1 1) ((numV s1 b1 1 : Nat) : Int), !okT (numR s1 b1 1) (!okN s1 b1 1) ((numV s1 b1 1 : Nat) : Int)⟩) := Lib.hid rfl
          generalize txtS (numR s1 b1 1) (!okN s1 b1 1) ((numV s1 b1 1 : Nat) : Int) = T at *
          generalize txtR (numR s1 b1 1) (!okN s1 b1 1) ((numV s1 b1 1 : Nat) : Int) = S at *
          generalize (!okT (numR s1 b1 1) (!okN s1 b1 1) ((numV s1 b1 1 : Nat) : Int)) = B at *
          generalize numR s1 b1 1 = S0 at *
          generalize (!okN s1 b1 1) = B0 at *
          generalize numV s1 b1 1 = N0 at *
          go_wp2_with (fail)
          refine n1.mono ?_
          rintro e w4 ⟨rfl, r4⟩
          have c4 := hc.rd r4 (by omega)
          have z4 := hz.rd r4 (by omega)
          have hB4 := hB.trans (r4.below (by omega) (by omega))
          go_wp2_with (fail)
          refine (n2 _ r4.r).mono ?_
          rintro e w5 ⟨rfl, r5⟩
          have c5 := c4.rd r5 (by omega)
          have z5 := z4.rd r5 (by omega)
          have hB5 := hB4.trans (r5.below (by omega) (by have := hB4.size; omega))
          have q5 := r5.r
          have hB5s := hB5.size
          have cc := c5.c1
          have ff := c5.f1
          go_wp2_with (fail)
          go_roundw
          case rel => exact ⟨k + 1, ⟨{ x with n := T }, S, B⟩, by omega, by go_num, by rw [HS.out, HP.out], q5.setO _ (by omega), c5.set1 _, z5.other _ (by omega), hB5.setCell (by show w.heap.size ≤ cb; omega) _⟩
          case measure => simp [intOf]; omega
        · have n1 := rdnum_any (w.heap.size + 1) s1 b1 1 wr hr (by omega)
          have n2 := fun W h => rdtext_any (w.heap.size + 1) (numR s1 b1 1) (!okN s1 b1 1) ((numV s1 b1 1 : Nat) : Int) W h (Nat.le_trans (Rm.numR_size _ _ _) (by omega))
          have HP : Hid (stepF ⟨x, s1, b1⟩ 2 = ⟨{ x with o := txtS (numR s1 b1 1) (!okN s1 b1 1) ((numV s1 b1 1 : Nat) : Int) }, txtR (numR s1 b1 1) (!okN s1 b1 1) ((numV s1 b1 1 : Nat) : Int), !okT (numR s1 b1 1) (!okN s1 b1 1) ((numV s1 b1 1 : Nat) : Int)⟩) := Lib.hid rfl
          generalize txtS (numR s1 b1 1) (!okN s1 b1 1) ((numV s1 b1 1 : Nat) : Int) = T at *
          generalize txtR (numR s1 b1 1) (!okN s1 b1 1) ((numV s1 b1 1 : Nat) : Int) = S at *
          generalize (!okT (numR s1 b1 1) (!okN s1 b1 1) ((numV s1 b1 1 : Nat) : Int)) = B at *
          generalize numR s1 b1 1 = S0 at *
          generalize (!okN s1 b1 1) = B0 at *
          generalize numV s1 b1 1 = N0 at *
          go_wp2_with (fail)
          refine n1.mono ?_
          rintro e w4 ⟨rfl, r4⟩
          have c4 := hc.rd r4 (by omega)
          have z4 := hz.rd r4 (by omega)
          have hB4 := hB.trans (r4.below (by omega) (by omega))
          go_wp2_with (fail)
          refine (n2 _ r4.r).mono ?_
          rintro e w5 ⟨rfl, r5⟩
          have c5 := c4.rd r5 (by omega)
          have z5 := z4.rd r5 (by omega)
          have hB5 := hB4.trans (r5.below (by omega) (by have := hB4.size; omega))
          have q5 := r5.r
          have hB5s := hB5.size
          have cc := c5.c2
          have ff := c5.f2
          go_wp2_with (fail)
          go_roundw
          case rel => exact ⟨k + 1, ⟨{ x with o := T }, S, B⟩, by omega, by go_num, by rw [HS.out, HP.out], q5.setO _ (by omega), c5.set2 _, z5.other _ (by omega), hB5.setCell (by show w.heap.size ≤ cb; omega) _⟩
          case measure => simp [intOf]; omega
        · have n1 := rdnum_any (w.heap.size + 1) s1 b1 6 wr hr (by omega)
          have HP : Hid (stepF ⟨x, s1, b1⟩ 3 = ⟨{ x with a := ((numV s1 b1 6 : Nat) : Int) }, numR s1 b1 6, !okN s1 b1 6⟩) := Lib.hid rfl
          generalize numR s1 b1 6 = S at *
          generalize (!okN s1 b1 6) = B at *
          generalize numV s1 b1 6 = T at *
          go_wp2_with (fail)
          refine n1.mono ?_
          rintro e w5 ⟨rfl, r5⟩
          have c5 := hc.rd r5 (by omega)
          have z5 := hz.rd r5 (by omega)
          have hB5 := hB.trans (r5.below (by omega) (by omega))
          have q5 := r5.r
          have hB5s := hB5.size
          have cc := c5.c3
          have ff := c5.f3
          go_wp2_with (fail)
          go_roundw
          case rel => exact ⟨k + 1, ⟨{ x with a := ((T : Nat) : Int) }, S, B⟩, by omega, by go_num, by rw [HS.out, HP.out], q5.setO _ (by omega), c5.set3 _, z5.other _ (by omega), hB5.setCell (by show w.heap.size ≤ cb; omega) _⟩
          case measure => simp [intOf]; omega
        · have n1 := rdnum_any (w.heap.size + 1) s1 b1 6 wr hr (by omega)
          have HP : Hid (stepF ⟨x, s1, b1⟩ 4 = ⟨{ x with c := ((numV s1 b1 6 : Nat) : Int) }, numR s1 b1 6, !okN s1 b1 6⟩) := Lib.hid rfl
          generalize numR s1 b1 6 = S at *
          generalize (!okN s1 b1 6) = B at *
          generalize numV s1 b1 6 = T at *
          go_wp2_with (fail)
          refine n1.mono ?_
          rintro e w5 ⟨rfl, r5⟩
          have c5 := hc.rd r5 (by omega)
          have z5 := hz.rd r5 (by omega)
          have hB5 := hB.trans (r5.below (by omega) (by omega))
          have q5 := r5.r
          have hB5s := hB5.size
          have cc := c5.c4
          have ff := c5.f4
          go_wp2_with (fail)
          go_roundw
          case rel => exact ⟨k + 1, ⟨{ x with c := ((T : Nat) : Int) }, S, B⟩, by omega, by go_num, by rw [HS.out, HP.out], q5.setO _ (by omega), c5.set4 _, z5.other _ (by omega), hB5.setCell (by show w.heap.size ≤ cb; omega) _⟩
          case measure => simp [intOf]; omega
        · have n1 := rdnum_any (w.heap.size + 1) s1 b1 2 wr hr (by omega)
          have n2 := fun W h => rdtext_any (w.heap.size + 1) (numR s1 b1 2) (!okN s1 b1 2) ((numV s1 b1 2 : Nat) : Int) W h (Nat.le_trans (Rm.numR_size _ _ _) (by omega))
          have HP : Hid (stepF ⟨x, s1, b1⟩ 5 = ⟨{ x with d := txtS (numR s1 b1 2) (!okN s1 b1 2) ((numV s1 b1 2 : Nat) : Int) }, txtR (numR s1 b1 2) (!okN s1 b1 2) ((numV s1 b1 2 : Nat) : Int), !okT (numR s1 b1 2) (!okN s1 b1 2) ((numV s1 b1 2 : Nat) : Int)⟩) := Lib.hid rfl
          generalize txtS (numR s1 b1 2) (!okN s1 b1 2) ((numV s1 b1 2 : Nat) : Int) = T at *
          generalize txtR (numR s1 b1 2) (!okN s1 b1 2) ((numV s1 b1 2 : Nat) : Int) = S at *
          generalize (!okT (numR s1 b1 2) (!okN s1 b1 2) ((numV s1 b1 2 : Nat) : Int)) = B at *
          generalize numR s1 b1 2 = S0 at *
          generalize (!okN s1 b1 2) = B0 at *
          generalize numV s1 b1 2 = N0 at *
          go_wp2_with (fail)
          refine n1.mono ?_
          rintro e w4 ⟨rfl, r4⟩
          have c4 := hc.rd r4 (by omega)
          have z4 := hz.rd r4 (by omega)
          have hB4 := hB.trans (r4.below (by omega) (by omega))
          go_wp2_with (fail)
          refine (n2 _ r4.r).mono ?_
          rintro e w5 ⟨rfl, r5⟩
          have c5 := c4.rd r5 (by omega)
          have z5 := z4.rd r5 (by omega)
          have hB5 := hB4.trans (r5.below (by omega) (by have := hB4.size; omega))
          have q5 := r5.r
          have hB5s := hB5.size
          have cc := c5.c5
          have ff := c5.f5
          go_wp2_with (fail)
          go_roundw
          case rel => exact ⟨k + 1, ⟨{ x with d := T }, S, B⟩, by omega, by go_num, by rw [HS.out, HP.out], q5.setO _ (by omega), c5.set5 _, z5.other _ (by omega), hB5.setCell (by show w.heap.size ≤ cb; omega) _⟩
          case measure => simp [intOf]; omega
      · obtain rfl : k = 3 := by omega
        have hl : (rowOf i).take 3 = rowOf i := by obtain ⟨x, y, z, h, _⟩ := row_form i; rw [h]; rfl
        rw [hl, ← hP3] at hp
        have hop : p.x.op = (i : Int) := by rw [hp]; exact HOP.out
        have hgb : getB s = (!p.b && (decide (p.s.size = 0) && rightB p.x)) := by rw [getB, ← hp, hop, HO.out, Bool.true_and]
        have hgx : Hid (getB s = true → getC s = p.x ∧ getE s = 0) := Lib.hid (fun h => by rw [getC, getE, if_pos h, if_pos h, hp]; exact ⟨rfl, rfl⟩)
        have hFr := hF.keep hB hltF
        clear hl hP3 hidx hn hps hp r0 x0 z3 hB3 hop HOP HO
        obtain ⟨x, s1, b1⟩ := p
        simp only at hr hc hsz hgb hgx
        have kb := bad_any (w.heap.size + 1) s1 b1 _ hr
        have kl := left_any (w.heap.size + 1) s1 b1 _ hr
        have kr := cright_any x _ hFr
        unfold Cmd.v at kr
        cases b1 with
        | true =>
          have hz' : Hid (getB s = false) := Lib.hid (by rw [hgb]; rfl)
          have hfin := (((((hz.set0 0).set1 ⟨#[]⟩).set2 ⟨#[]⟩).set3 0).set4 0).set5 ⟨#[]⟩
          obtain ⟨v0, v1, v2, v3, v4, v5, g0, g1, g2, g3, g4, g5, vl⟩ := hz
          clear hgb kl kr
          go_wp2_with (fail)
          refine kb.mono ?_
          rintro e wq ⟨rfl, rfl⟩
          go_wp2_with (fail)
          refine bodyPost_ret (res_get hfin rfl rfl) rfl (get_bad w s hz' _ ?_)
          exact (((((hB.setCell (Nat.le_refl _) _).setCell (Nat.le_refl _) _).setCell (Nat.le_refl _) _).setCell (Nat.le_refl _) _).setCell (Nat.le_refl _) _).setCell (Nat.le_refl _) _
        | false =>
          by_cases hl0 : s1.size = 0
          rotate_left
          · have hz' : Hid (getB s = false) := Lib.hid (by rw [hgb, decide_eq_false hl0]; rfl)
            have t5 : decide ((0 : Int) < (s1.size : Int)) = true := by rw [decide_eq_true_eq]; omega
            have t6 : decide (0 < s1.size) = true := by rw [decide_eq_true_eq]; omega
            have hfin := (((((hz.set0 0).set1 ⟨#[]⟩).set2 ⟨#[]⟩).set3 0).set4 0).set5 ⟨#[]⟩
            obtain ⟨v0, v1, v2, v3, v4, v5, g0, g1, g2, g3, g4, g5, vl⟩ := hz
            clear hgb kr hl0
            go_wp2_with (fail)
            refine kb.mono ?_
            rintro e wq ⟨rfl, rfl⟩
            go_wp2_with (fail)
            refine kl.mono ?_
            rintro e wq ⟨rfl, rfl⟩
            go_wp2_with (fail)
            refine bodyPost_ret (res_get hfin rfl rfl) rfl (get_bad w s hz' _ ?_)
            exact (((((hB.setCell (Nat.le_refl _) _).setCell (Nat.le_refl _) _).setCell (Nat.le_refl _) _).setCell (Nat.le_refl _) _).setCell (Nat.le_refl _) _).setCell (Nat.le_refl _) _
          have t5 : decide ((0 : Int) < (s1.size : Int)) = false := by rw [decide_eq_false_iff_not]; omega
          have t6 : decide (0 < s1.size) = false := by rw [decide_eq_false_iff_not]; omega
          obtain ⟨a0, a1, a2, a3, a4, a5, e0, e1, e2, e3, e4, e5, al⟩ := id hc
          cases hrb : rightB x with
          | false =>
            have hz' : Hid (getB s = false) := Lib.hid (by rw [hgb, hrb, Bool.and_false, Bool.and_false])
            rw [hrb] at kr
            clear hgb hl0 hrb
            go_wp2_with (fail)
            refine kb.mono ?_
            rintro e wq ⟨rfl, rfl⟩
            go_wp2_with (fail)
            refine kl.mono ?_
            rintro e wq ⟨rfl, rfl⟩
            go_wp2_with (fail)
            refine kr.mono ?_
            rintro e w6 ⟨rfl, b6⟩
            have z6 := hz.below b6 (by omega)
            have hB6 := hB.trans (b6.mono hBs)
            clear hz a0 a1 a2 a3 a4 a5 e0 e1 e2 e3 e4 e5
            have hfin := (((((z6.set0 0).set1 ⟨#[]⟩).set2 ⟨#[]⟩).set3 0).set4 0).set5 ⟨#[]⟩
            obtain ⟨v0, v1, v2, v3, v4, v5, g0, g1, g2, g3, g4, g5, vl⟩ := z6
            go_wp2_with (fail)
            refine bodyPost_ret (res_get hfin rfl rfl) rfl (get_bad w s hz' _ ?_)
            exact (((((hB6.setCell (Nat.le_refl _) _).setCell (Nat.le_refl _) _).setCell (Nat.le_refl _) _).setCell (Nat.le_refl _) _).setCell (Nat.le_refl _) _).setCell (Nat.le_refl _) _
          | true =>
            have hz' : Hid (getC s = x ∧ getE s = 0) := Lib.hid (hgx.out (by rw [hgb, hrb, decide_eq_true hl0]; rfl))
            rw [hrb] at kr
            clear hgb hl0 hrb hgx
            go_wp2_with (fail)
            refine kb.mono ?_
            rintro e wq ⟨rfl, rfl⟩
            go_wp2_with (fail)
            refine kl.mono ?_
            rintro e wq ⟨rfl, rfl⟩
            go_wp2_with (fail)
            refine kr.mono ?_
            rintro e w6 ⟨rfl, b6⟩
            have z6 := hz.below b6 (by omega)
            have c6 := hc.below b6 hc.lt
            have hB6 := hB.trans (b6.mono hBs)
            clear hz a0 a1 a2 a3 a4 a5 e0 e1 e2 e3 e4 e5
            have hfin := (((((z6.set0 x.op).set1 x.n).set2 x.o).set3 x.a).set4 x.c).set5 x.d
            obtain ⟨v0, v1, v2, v3, v4, v5, g0, g1, g2, g3, g4, g5, vl⟩ := z6
            obtain ⟨a0, a1, a2, a3, a4, a5, e0, e1, e2, e3, e4, e5, al⟩ := c6
            go_wp2_with (fail)
            refine bodyPost_ret (res_get hfin rfl rfl) rfl ⟨by rw [hz'.out.1, hz'.out.2], ?_⟩
            exact (((((hB6.setCell (Nat.le_refl _) _).setCell (Nat.le_refl _) _).setCell (Nat.le_refl _) _).setCell (Nat.le_refl _) _).setCell (Nat.le_refl _) _).setCell (Nat.le_refl _) _
end Go.Proofs.YtjbekphjhmlloaaDoor
