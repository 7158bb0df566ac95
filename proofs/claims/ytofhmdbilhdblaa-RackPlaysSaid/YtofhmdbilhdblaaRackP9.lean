/- rack: both racks side by side. -/
import Derived.Test.YtofhmdbilhdblaaRackQ2
import Derived.Test.YtofhmdbilhdblaaRackActs
import Derived.Test.YtofhmdbilhdblaaRackAwake
import Derived.Test.YtofhmdbilhdblaaClsTail
import Derived.Deep.CutBlock
namespace Go.Proofs.Ytofhmdbilhdblaa
open Go.RowKit
set_option linter.unusedVariables false
set_option linter.unusedSimpArgs false
set_option maxRecDepth 100000

/-- Both racks and a box beside them. -/
structure P9 (w : World) (Sa Sb : Nat → Prop) (W : World) (ka kb n : Nat) (Ra Rq : Rk) (xb : Nat) (X : Obj) : Prop where
  a : RA w Sa W ka n Ra
  q : KA w Sb W kb n Rq
  d : ∀ k, Sa k → ¬ Sb k
  x : W.heap[xb]? = some X
  xa : ¬ Sa xb
  xq : ¬ Sb xb
section
variable {w W W2 : World} {Sa Sb Sa' Sb' : Nat → Prop} {ka kb n xb : Nat} {Ra Rq Ra' Rq' : Rk} {X : Obj}
theorem P9.xl (h : P9 w Sa Sb W ka kb n Ra Rq xb X) : xb < W.heap.size := (Array.getElem?_eq_some_iff.1 h.x).1
theorem P9.after (h : P9 w Sa Sb W ka kb n Ra Rq xb X) (hb : Below W.heap.size W W2) : P9 w Sa Sb W2 ka kb n Ra Rq xb X := ⟨h.a.after hb, h.q.after hb, h.d, (hb.block xb h.xl).trans h.x, h.xa, h.xq⟩
theorem P9.stepA (h : P9 w Sa Sb W ka kb n Ra Rq xb X) (hs : Stp Sa Sa' W W2) (ha : RA w Sa' W2 ka n Ra') : P9 w Sa' Sb W2 ka kb n Ra' Rq xb X := by
  obtain ⟨h1, h2⟩ := h.q.stepR hs h.a.from (fun k hb ha => h.d k ha hb)
  exact ⟨ha, h1, fun k hk hk2 => h2 k hk2 hk, (hs.oth xb h.xl h.xa).trans h.x, fun e => (hs.grow xb e).elim h.xa (fun x => by have := h.xl; omega), h.xq⟩
theorem P9.stepQ (h : P9 w Sa Sb W ka kb n Ra Rq xb X) (hs : Stp Sb Sb' W W2) (ha : KA w Sb' W2 kb n Rq') : P9 w Sa Sb' W2 ka kb n Ra Rq' xb X := by
  obtain ⟨h1, h2⟩ := h.a.stepR hs h.q.f h.d
  exact ⟨h1, ha, h2, (hs.oth xb h.xl h.xq).trans h.x, h.xa, fun e => (hs.grow xb e).elim h.xq (fun x => by have := h.xl; omega)⟩
theorem P9.cell (h : P9 w Sa Sb W ka kb n Ra Rq xb X) {cs : Array Value} {T : TypeId} (e : X = .cells cs T (0, 0)) (o : Nat) : W.cell? ⟨xb, o, none⟩ = cs[o]? := by
  have := h.x
  rw [e] at this
  simp [World.cell?, this]
/-- What a call on the program's rack leaves. -/
def DoesRA (w : World) (Sb : Nat → Prop) (ka kb n : Nat) (Ra' Rq : Rk) (xb : Nat) (X : Obj) (u : Value) (e : Ending) (w' : World) : Prop := e = .returned u ∧ ∃ Sa', P9 w Sa' Sb w' ka kb n Ra' Rq xb X
def DoesRQ (w : World) (Sa : Nat → Prop) (ka kb n : Nat) (Ra Rq' : Rk) (xb : Nat) (X : Obj) (u : Value) (e : Ending) (w' : World) : Prop := e = .returned u ∧ ∃ Sb', P9 w Sa Sb' w' ka kb n Ra Rq' xb X
theorem P9.doA (h : P9 w Sa Sb W ka kb n Ra Rq xb X) {f : FuncId} {args : Array Value} {u : Value} (hc : Calls Try.prog f args W (RDoes w Sa W ka n Ra' u)) : Calls Try.prog f args W (DoesRA w Sb ka kb n Ra' Rq xb X u) :=
  hc.mono fun e w' ⟨he, Sa', hs, ha⟩ => ⟨he, Sa', h.stepA hs ha⟩
theorem P9.doQ (h : P9 w Sa Sb W ka kb n Ra Rq xb X) {f : FuncId} {args : Array Value} {u : Value} (hc : Calls Try.prog f args W (KDoes w Sb W kb n Rq' u)) : Calls Try.prog f args W (DoesRQ w Sa ka kb n Ra Rq' xb X u) :=
  hc.mono fun e w' ⟨he, Sb', hs, ha⟩ => ⟨he, Sb', h.stepQ hs ha⟩
theorem P9.drew (h : P9 w Sa Sb W ka kb n Ra Rq xb X) : P9 w Sa Sb W.drew ka kb n Ra Rq xb X := h.after (Below.refl _ _).drew
end
/-- Both racks alone. -/
structure P9' (w : World) (Sa Sb : Nat → Prop) (W : World) (ka kb n : Nat) (R : Rk) : Prop where
  a : RA w Sa W ka n R
  q : KA w Sb W kb n R
  d : ∀ k, Sa k → ¬ Sb k
theorem P9'.after {w W W2 : World} {Sa Sb : Nat → Prop} {ka kb n : Nat} {R : Rk} (h : P9' w Sa Sb W ka kb n R) (hb : Below W.heap.size W W2) : P9' w Sa Sb W2 ka kb n R := ⟨h.a.after hb, h.q.after hb, h.d⟩
theorem rnew_badn (n s : Int) (w : World) (h : n < 1 ∨ 7 < n) : Calls Try.prog 38 #[.int .i64 n, .int .i64 s] w fun e w' => e = .returned (.tuple #[.pointer none, .int .i64 1]) ∧ w = w' := by
  by_cases h1 : n < 1
  · have t1 : decide (n < 1) = true := decide_eq_true h1
    clear h h1
    go_enter Try.func38, Try.ntmps38
    go_wp2
    go_ret2
    exact ⟨rfl, rfl⟩
  · have t1 : decide (n < 1) = false := decide_eq_false h1
    have t2 : decide (7 < n) = true := decide_eq_true (by omega)
    clear h h1
    go_enter Try.func38, Try.ntmps38
    go_wp2
    go_ret2
    exact ⟨rfl, rfl⟩
set_option maxHeartbeats 2000000 in
theorem rnew_bads (n s : Int) (w : World) (h : 1 ≤ n ∧ n ≤ 7) (hs : s < 1 ∨ 256 < s) : Calls Try.prog 38 #[.int .i64 n, .int .i64 s] w fun e w' => e = .returned (.tuple #[.pointer none, .int .i64 1]) ∧ Below w.heap.size w w' := by
  have t1 : decide (n < 1) = false := decide_eq_false (by omega)
  have t2 : decide (7 < n) = false := decide_eq_false (by omega)
  have n0 : 0 < n := by omega
  have cN := fun W => newm_bad s W hs
  have hb0 : Below w.heap.size w (w.alloc (.cells #[.slice none 0 0, .bool false, .int .i64 0, .int .i64 0] 90)) := (Below.refl _ _).alloc (Nat.le_refl _) _
  have hb0H := Lib.hid hb0
  clear hb0 h hs
  go_enter Try.func38, Try.ntmps38
  go_wp2_with (fail)
  go_loopw [18] (fun t wr => t = .int .i64 0 ∧ wr = w.alloc (.cells #[.slice none 0 0, .bool false, .int .i64 0, .int .i64 0] 90)) (fun _ _ => 0)
  case atStart => exact ⟨rfl, rfl⟩
  case round =>
    obtain ⟨rfl, rfl⟩ := hrel
    go_wp2_with (fail)
    refine (cN _).mono ?_
    rintro e w' ⟨rfl, rfl⟩
    go_wp2_with (fail)
    go_ret2
    exact ⟨rfl, hb0H.out⟩
set_option maxHeartbeats 4000000 in
theorem same9k_any {w W : World} {Sa Sb : Nat → Prop} {ka kb n : Nat} {R : Rk} (h : P9' w Sa Sb W ka kb n R) (hn : 1 ≤ n ∧ n ≤ 7) (hL : ∀ i, i < n → (R.M i).L.length ≤ 256) :
    Calls Try.prog 63 #[.pointer (some ⟨ka, 0, none⟩), .pointer (some ⟨kb, 0, none⟩)] W (Ends W true) := by
  have c1 := rs_off h.a
  have c2 := kt_off h.q
  have c3 := rs_acts h.a
  have c4 := kt_acts h.q
  have c5 := rs_slots h.a
  have c6 := kt_slots h.q
  have c7 := rs_sectors h.a (by omega)
  have c8 := kt_sectors h.q
  have cS : ∀ V, P9' w Sa Sb V ka kb n R → Calls Try.prog 79 #[.pointer (some ⟨kb, 0, none⟩)] V fun e w' => e = .returned (.int .i64 (n : Int)) ∧ V = w' := fun V h => kt_slots h.q
  have cA : ∀ V (i : Nat), P9' w Sa Sb V ka kb n R → Calls Try.prog 57 #[.pointer (some ⟨ka, 0, none⟩), .int .i64 (i : Int)] V fun e w' => e = .returned (.bool (alR n R i)) ∧ V = w' := fun V i h => rt_alive h.a i
  have cB : ∀ V (i : Nat), P9' w Sa Sb V ka kb n R → Calls Try.prog 58 #[.pointer (some ⟨kb, 0, none⟩), .int .i64 (i : Int)] V fun e w' => e = .returned (.bool (alR n R i)) ∧ V = w' := fun V i h => kt_alive h.q i
  have cP : ∀ V (i : Nat), P9' w Sa Sb V ka kb n R → Calls Try.prog 59 #[.pointer (some ⟨ka, 0, none⟩), .int .i64 (i : Int)] V fun e w' => e = .returned (.int .i64 (peR n R i)) ∧ Below V.heap.size V w' := fun V i h => rt_pending h.a i
  have cQ : ∀ V (i : Nat), P9' w Sa Sb V ka kb n R → Calls Try.prog 60 #[.pointer (some ⟨kb, 0, none⟩), .int .i64 (i : Int)] V fun e w' => e = .returned (.int .i64 (peR n R i)) ∧ Below V.heap.size V w' := fun V i h => kt_pending h.q i
  have cI : ∀ V (i : Nat), P9' w Sa Sb V ka kb n R → Calls Try.prog 61 #[.pointer (some ⟨ka, 0, none⟩), .int .i64 (i : Int)] V (GivesQ V (imR n R i)) := fun V i h => rt_image h.a i
  have cJ : ∀ V (i : Nat), P9' w Sa Sb V ka kb n R → Calls Try.prog 62 #[.pointer (some ⟨kb, 0, none⟩), .int .i64 (i : Int)] V (GivesQ V (imR n R i)) := fun V i h => kt_image h.q i
  have hIl : ∀ i, i < n → (imR n R (i : Nat)).length ≤ 256 := fun i hi => by
    unfold imR
    rw [if_pos (hasK_nat hi), Int.toNat_natCast]
    unfold imL; split
    · exact Nat.zero_le _
    · exact hL i hi
  have hPH := Lib.hid h
  obtain ⟨u1, h1⟩ : ∃ u, R.off = u := ⟨_, rfl⟩
  obtain ⟨u3, h3⟩ : ∃ u, R.acts = u := ⟨_, rfl⟩
  obtain ⟨u7, h7⟩ : ∃ u : Int, ((R.M 0).L.length : Int) = u := ⟨_, rfl⟩
  rw [h1] at c1 c2
  rw [h3] at c3 c4
  rw [h7] at c7 c8
  have b1 : (u1 != u1) = false := bne_self_eq_false _
  have b3 : (u3 != u3) = false := bne_self_eq_false _
  have b7 : (u7 != u7) = false := bne_self_eq_false _
  have bn : ((n : Int) != (n : Int)) = false := bne_self_eq_false _
  clear h h1 h3 h7 hL
  go_enter Try.func63, Try.ntmps63
  go_wp2_with (fail)
  refine c1.mono ?_
  rintro e w' ⟨rfl, rfl⟩
  go_wp2_with (fail)
  refine c2.mono ?_
  rintro e w' ⟨rfl, rfl⟩
  go_wp2_with (fail)
  refine c3.mono ?_
  rintro e w' ⟨rfl, rfl⟩
  go_wp2_with (fail)
  refine c4.mono ?_
  rintro e w' ⟨rfl, rfl⟩
  go_wp2_with (fail)
  refine c5.mono ?_
  rintro e w' ⟨rfl, rfl⟩
  go_wp2_with (fail)
  refine c6.mono ?_
  rintro e w' ⟨rfl, rfl⟩
  go_wp2_with (fail)
  refine c7.mono ?_
  rintro e w' ⟨rfl, rfl⟩
  go_wp2_with (fail)
  refine c8.mono ?_
  rintro e w' ⟨rfl, rfl⟩
  clear c1 c2 c3 c4 c5 c6 c7 c8 b1 b3 b7 bn
  go_wp2_with (fail)
  go_loopw [5] (fun t wr => ∃ j : Nat, j ≤ n ∧ t = .int .i64 (j : Int) ∧ Below W.heap.size W wr ∧ P9' w Sa Sb wr ka kb n R) (fun t _ => n - (intOf t).toNat)
  case atStart => exact ⟨0, by omega, rfl, Below.refl _ _, hPH.out⟩
  case round =>
    clear hPH
    obtain ⟨j, hj, rfl, hb, hP⟩ := hrel
    by_cases hlt : j < n
    · have j1 : (j : Int) < (n : Int) := by omega
      have j2 : (j : Int) + 1 ≤ 8 := by omega
      have hI := hIl j hlt
      obtain ⟨v1, g1⟩ : ∃ u, alR n R (j : Int) = u := ⟨_, rfl⟩
      obtain ⟨v2, g2⟩ : ∃ u, peR n R (j : Int) = u := ⟨_, rfl⟩
      obtain ⟨v3, g3⟩ : ∃ u, imR n R (j : Int) = u := ⟨_, rfl⟩
      have dA := fun V h => cA V j h
      have dB := fun V h => cB V j h
      have dP := fun V h => cP V j h
      have dQ := fun V h => cQ V j h
      have dI := fun V h => cI V j h
      have dJ := fun V h => cJ V j h
      rw [g1] at dA dB
      rw [g2] at dP dQ
      rw [g3] at dI dJ hI
      have b1 : (v1 != v1) = false := bne_self_eq_false _
      have b2 : (v2 != v2) = false := bne_self_eq_false _
      clear g1 g2 g3 cA cB cP cQ cI cJ hIl
      go_wp2_with (fail)
      refine (cS _ hP).mono ?_
      rintro e w' ⟨rfl, rfl⟩
      go_wp2_with (fail)
      refine (dA _ hP).mono ?_
      rintro e w' ⟨rfl, rfl⟩
      go_wp2_with (fail)
      refine (dB _ hP).mono ?_
      rintro e w' ⟨rfl, rfl⟩
      go_wp2_with (fail)
      refine (dP _ hP).mono ?_
      rintro e w2 ⟨rfl, b22⟩
      have hP2 := hP.after b22
      go_wp2_with (fail)
      refine (dQ _ hP2).mono ?_
      rintro e w3 ⟨rfl, b33⟩
      have hP3 := hP2.after b33
      go_wp2_with (fail)
      refine (dI _ hP3).mono ?_
      rintro e w4 ⟨va, rfl, b44, o4⟩
      have hP4 := hP3.after b44
      go_wp2_with (fail)
      refine (dJ _ hP4).mono ?_
      rintro e w5 ⟨vb, rfl, b55, o5⟩
      have hP5 := hP4.after b55
      have cm := same_any va vb v3 v3 w5 (o4.reads.below b55) o5.reads (by omega) (by omega)
      rw [decide_eq_true rfl] at cm
      go_wp2_with (fail)
      refine cm.mono ?_
      rintro e w6 ⟨rfl, b66, _⟩
      have hrel2 := Lib.hid (And.intro (below_c (below_c (below_c (below_c (below_c hb b22) b33) b44) b55) b66) (hP5.after b66))
      clear hb hP hP2 hP3 hP4 hP5 b22 b33 b44 b55 b66 o4 o5 cm dA dB dP dQ dI dJ
      go_wp2_with (fail)
      go_roundw
      case rel => exact ⟨j + 1, by omega, by go_num, hrel2.out⟩
      case measure => simp [intOf]; omega
    · have j1 : ¬ ((j : Int) < (n : Int)) := by omega
      go_wp2_with (fail)
      refine (cS _ hP).mono ?_
      rintro e w' ⟨rfl, rfl⟩
      clear hP
      go_wp2_with (fail)
      go_ret
      exact ⟨rfl, hb⟩
end Go.Proofs.Ytofhmdbilhdblaa
