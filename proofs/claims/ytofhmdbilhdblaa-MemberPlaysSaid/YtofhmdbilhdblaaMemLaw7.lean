/- member: both members side by side. -/
import Derived.Test.YtofhmdbilhdblaaMemActs
import Derived.Test.YtofhmdbilhdblaaClsTail
import Derived.Deep.CutBlock
namespace Go.Proofs.Ytofhmdbilhdblaa
open Go.RowKit
set_option linter.unusedVariables false
set_option linter.unusedSimpArgs false
set_option maxRecDepth 100000

/-- Both members and a box beside them. -/
structure P8 (w : World) (Sa Sb : Nat → Prop) (W : World) (ma mb : Nat) (Ma Mq : Mst) (xb : Nat) (X : Obj) : Prop where
  a : MA w Sa W ma Ma
  q : QA w Sb W mb Mq
  d : ∀ k, Sa k → ¬ Sb k
  x : W.heap[xb]? = some X
  xa : ¬ Sa xb
  xq : ¬ Sb xb
section
variable {w W W2 : World} {Sa Sb Sa' Sb' : Nat → Prop} {ma mb xb : Nat} {Ma Mq Ma' Mq' : Mst} {X : Obj}
theorem P8.xl (h : P8 w Sa Sb W ma mb Ma Mq xb X) : xb < W.heap.size := (Array.getElem?_eq_some_iff.1 h.x).1
theorem P8.after (h : P8 w Sa Sb W ma mb Ma Mq xb X) (hb : Below W.heap.size W W2) : P8 w Sa Sb W2 ma mb Ma Mq xb X := ⟨h.a.after hb, h.q.after hb, h.d, (hb.block xb h.xl).trans h.x, h.xa, h.xq⟩
theorem P8.stepA (h : P8 w Sa Sb W ma mb Ma Mq xb X) (hs : Stp Sa Sa' W W2) (ha : MA w Sa' W2 ma Ma') : P8 w Sa' Sb W2 ma mb Ma' Mq xb X := by
  obtain ⟨h1, h2⟩ := h.q.step hs h.a.from (fun k hb ha => h.d k ha hb)
  exact ⟨ha, h1, fun k hk hk2 => h2 k hk2 hk, (hs.oth xb h.xl h.xa).trans h.x, fun e => (hs.grow xb e).elim h.xa (fun x => by have := h.xl; omega), h.xq⟩
theorem P8.stepQ (h : P8 w Sa Sb W ma mb Ma Mq xb X) (hs : Stp Sb Sb' W W2) (ha : QA w Sb' W2 mb Mq') : P8 w Sa Sb' W2 ma mb Ma Mq' xb X := by
  obtain ⟨h1, h2⟩ := h.a.step hs h.q.from h.d
  exact ⟨h1, ha, h2, (hs.oth xb h.xl h.xq).trans h.x, h.xa, fun e => (hs.grow xb e).elim h.xq (fun x => by have := h.xl; omega)⟩
theorem P8.cell (h : P8 w Sa Sb W ma mb Ma Mq xb X) {cs : Array Value} {T : TypeId} (e : X = .cells cs T (0, 0)) (o : Nat) : W.cell? ⟨xb, o, none⟩ = cs[o]? := by
  have := h.x
  rw [e] at this
  simp [World.cell?, this]
/-- What a call on the program's member leaves. -/
def DoesA (w : World) (Sb : Nat → Prop) (ma mb : Nat) (Ma' Mq : Mst) (xb : Nat) (X : Obj) (u : Value) (e : Ending) (w' : World) : Prop := e = .returned u ∧ ∃ Sa', P8 w Sa' Sb w' ma mb Ma' Mq xb X
def DoesQ (w : World) (Sa : Nat → Prop) (ma mb : Nat) (Ma Mq' : Mst) (xb : Nat) (X : Obj) (u : Value) (e : Ending) (w' : World) : Prop := e = .returned u ∧ ∃ Sb', P8 w Sa Sb' w' ma mb Ma Mq' xb X
theorem P8.doA (h : P8 w Sa Sb W ma mb Ma Mq xb X) {f : FuncId} {args : Array Value} {u : Value} (hc : Calls Try.prog f args W (MDoes w Sa W ma Ma' u)) : Calls Try.prog f args W (DoesA w Sb ma mb Ma' Mq xb X u) :=
  hc.mono fun e w' ⟨he, Sa', hs, ha⟩ => ⟨he, Sa', h.stepA hs ha⟩
theorem P8.doQ (h : P8 w Sa Sb W ma mb Ma Mq xb X) {f : FuncId} {args : Array Value} {u : Value} (hc : Calls Try.prog f args W (QDoes w Sb W mb Mq' u)) : Calls Try.prog f args W (DoesQ w Sa ma mb Ma Mq' xb X u) :=
  hc.mono fun e w' ⟨he, Sb', hs, ha⟩ => ⟨he, Sb', h.stepQ hs ha⟩
theorem P8.drew (h : P8 w Sa Sb W ma mb Ma Mq xb X) : P8 w Sa Sb W.drew ma mb Ma Mq xb X := h.after (Below.refl _ _).drew
end
set_option maxHeartbeats 8000000 in
theorem plays8_walk (a0 : Int) (v1 : Value) (la : List Ac8) (w : World) (n0 : -9223372036854775808 ≤ a0 ∧ a0 ≤ 9223372036854775807) (hA1 : ActsR8 w v1 la) :
    Calls Try.prog 3 #[.int .i64 a0, v1] w (Ends w true) := by
  have hlena := fun W => hA1.1.len_run (P := Try.prog) Try.underlying22 3 W
  go_enter Try.func3, Try.ntmps3
  go_wp2_with (fail)
  refine (awake_any _).mono ?_
  rintro e w1 ⟨rfl, b1⟩
  go_wp2_with (fail)
  by_cases hbad : a0 < 1 ∨ 256 < a0
  · refine (newm_bad a0 _ hbad).mono ?_
    rintro e w' ⟨rfl, rfl⟩
    go_wp2_with (fail)
    refine (qnew_bad a0 _ hbad).mono ?_
    rintro e w' ⟨rfl, rfl⟩
    clear hbad
    go_wp2_with (fail)
    go_ret
    exact ⟨rfl, b1⟩
  obtain ⟨n, rfl⟩ := Int.eq_ofNat_of_zero_le (show 0 ≤ a0 by omega)
  have hn1 : 1 ≤ n := by omega
  have hn2 : n ≤ 256 := by omega
  clear hbad n0
  refine (ma_new n _ hn1 hn2).mono ?_
  rintro e w2 ⟨Sa, ma, rfl, ha⟩
  go_wp2_with (fail)
  refine (qnew_any n _ hn1 hn2).mono ?_
  rintro e w3 ⟨Sb, mb, rfl, hq⟩
  have hR1 : ReadsE aE8 w1 v1 la := hA1.1.below b1
  have hQ2 : ∀ x ∈ la, (In64 x.wh ∧ In64 x.at_ ∧ In64 x.n) ∧ Reads w1 x.v (x.l.map (.int .i64)) ∧ (∀ n ∈ x.l, In64 n) ∧ x.l.length ≤ 140737488355328 := fun x hx => by
    obtain ⟨h1, h2, h3⟩ := hA1.2.1 x hx
    exact ⟨h1, h2.below b1, h3⟩
  have hb1H := Lib.hid b1
  have hq1 : QA w1 Sb w3 mb ⟨false, List.replicate n zero128, noV⟩ := by
    obtain ⟨q, cap, F, f1, f2⟩ := hq.h
    exact ⟨ha.b.trans (hq.b.mono ha.b.size), q, cap, F, fun k hk => Nat.le_trans ha.b.size (f1 k hk), f2⟩
  have ha1 := ha.after hq.b
  have hd0 : ∀ k, Sa k → ¬ Sb k := fun k hk hk2 => by
    have := ha.lt k hk
    obtain ⟨q, cap, F, f1, f2⟩ := hq.h
    have := f1 k hk2
    omega
  have hrel0 : Hid (∃ Sa Sb M, MA w1 Sa w3 ma M ∧ QA w1 Sb w3 mb M ∧ (∀ k, Sa k → ¬ Sb k) ∧ Vn M 0) := Lib.hid ⟨Sa, Sb, _, ha1, hq1, hd0, Vn.none _ _ _⟩
  clear b1 ha hq hq1 ha1 hd0 hA1 hn1 hn2
  go_wp2_with (fail)
  go_loopw [10] (fun t wr => ∃ (k : Nat), k ≤ 200 ∧ k ≤ la.length ∧ t = .int .i64 (k : Int) ∧ ∃ (Sa Sb : Nat → Prop) (M : Mst), MA w1 Sa wr ma M ∧ QA w1 Sb wr mb M ∧ (∀ k, Sa k → ¬ Sb k) ∧ Vn M k) (fun t _ => 200 - (intOf t).toNat)
  case atStart => exact ⟨0, by omega, by omega, rfl, hrel0.out⟩
  case round =>
    clear hrel0
    obtain ⟨k, hk200, hkl, rfl, Sa, Sb, M, ha, hq, hd, hV⟩ := hrel
    by_cases hlt : k < la.length ∧ k < 200
    · obtain ⟨hl1, hl2⟩ := hlt
      have k1 : (k : Int) < (la.length : Int) := by omega
      have k2 : (k : Int) < 200 := by omega
      obtain ⟨pa, pcap, rfl, pcell⟩ := hR1.items
      obtain ⟨cb, co, rfl, clt, cc⟩ := pcell k hl1
      obtain ⟨⟨i0, i1, i2⟩, hC, hCI, hCn⟩ := hQ2 _ (List.getElem_mem hl1)
      obtain ⟨x, hx⟩ : ∃ x, la[k] = x := ⟨_, rfl⟩
      rw [hx] at cc i0 i1 i2 hC hCI hCn
      have hav : asS x.v = x.v := asS_of hC
      have hba := ha.b
      have cell : ∀ j, j < 4 → wr.cell? ⟨cb, co + k * 4 + j, none⟩ = (aE8.f x)[j]? := fun j hj => by
        rw [Nat.add_assoc]
        exact (hba.cell (p := ⟨cb, co + (k * 4 + j), none⟩) clt).trans (cc j hj)
      have q0 := cell 0 (by omega)
      have q1 := cell 1 (by omega)
      have q2 := cell 2 (by omega)
      have q3 := cell 3 (by omega)
      obtain ⟨ca, cn, ccp, hcv⟩ : ∃ a n c, x.v = .slice a n c := by
        rw [← hav]; cases x.v <;> exact ⟨_, _, _, rfl⟩
      replace q0 : wr.cell? ⟨cb, co + k * 4, none⟩ = some (.int .i64 x.wh) := q0
      replace q1 : wr.cell? ⟨cb, co + k * 4 + 1, none⟩ = some (.int .i64 x.at_) := q1
      replace q2 : wr.cell? ⟨cb, co + k * 4 + 2, none⟩ = some (.int .i64 x.n) := q2
      replace q3 : wr.cell? ⟨cb, co + k * 4 + 3, none⟩ = some (.slice ca cn ccp) := by rw [← hcv, ← hav]; exact q3
      have hBX : Hid (P8 w1 Sa Sb (wr.alloc (.cells #[.int .i64 x.wh, .int .i64 x.at_, .int .i64 x.n, .slice ca cn ccp] 33)) ma mb M M wr.heap.size (.cells #[.int .i64 x.wh, .int .i64 x.at_, .int .i64 x.n, .slice ca cn ccp] 33 (0, 0))) := by
        have b2 : Below wr.heap.size wr (wr.alloc (.cells #[.int .i64 x.wh, .int .i64 x.at_, .int .i64 x.n, .slice ca cn ccp] 33)) := (Below.refl _ _).alloc (Nat.le_refl _) _
        exact Lib.hid ⟨ha.after b2, hq.after b2, hd, heap_alloc_new _ _, fun e => by have := ha.lt _ e; omega, fun e => by have := hq.lt _ e; omega⟩
      rw [hcv] at hC
      clear ha hq hd pcell cc cell hcv hx hav hba hQ2
      go_upto_region 13 with (fail)
      have e0 : (wr.alloc (.cells #[.int .i64 x.wh, .int .i64 x.at_, .int .i64 x.n, .slice ca cn ccp] 33)).cell? ⟨wr.heap.size, 0, none⟩ = some (.int .i64 x.wh) := by rw [World.cell?_alloc_mark]; rfl
      clear q0 q1 q2 q3 clt hR1
      generalize wr.alloc (.cells #[.int .i64 x.wh, .int .i64 x.at_, .int .i64 x.n, .slice ca cn ccp] 33) = wa at *
      generalize wr.heap.size = xb at *
      obtain ⟨X, hX⟩ : ∃ X, Obj.cells #[.int .i64 x.wh, .int .i64 x.at_, .int .i64 x.n, .slice ca cn ccp] 33 (0, 0) = X := ⟨_, rfl⟩
      rw [hX] at hBX
      have hP := hBX.out
      clear hBX
      have hS1 : Hid (∀ V Sa Sb Ma Mq, P8 w1 Sa Sb V ma mb Ma Mq xb X → V.cell? ⟨xb, 1, none⟩ = some (.int .i64 x.at_)) := Lib.hid fun V _ _ _ _ h => (h.cell hX.symm 1).trans rfl
      have hS2 : Hid (∀ V Sa Sb Ma Mq, P8 w1 Sa Sb V ma mb Ma Mq xb X → V.cell? ⟨xb, 2, none⟩ = some (.int .i64 x.n)) := Lib.hid fun V _ _ _ _ h => (h.cell hX.symm 2).trans rfl
      have hS3 : Hid (∀ V Sa Sb Ma Mq, P8 w1 Sa Sb V ma mb Ma Mq xb X → V.cell? ⟨xb, 3, none⟩ = some (.slice ca cn ccp)) := Lib.hid fun V _ _ _ _ h => (h.cell hX.symm 3).trans rfl
      have pk : ∀ (c : Int) (m : Nat), In64 c → 1 ≤ m → m ≤ 300 → ∀ W, Calls Try.prog 9 #[.int .i64 c, .int .i64 (m : Int)] W fun e w' => e = .returned (.int .i64 ((pickC c % m : Nat) : Int)) ∧ W = w' := fun c m hc h1 h2 W => pick_any c m hc h1 (by omega) W
      obtain ⟨t, ht⟩ : ∃ t, pickC x.wh % 12 = t := ⟨_, rfl⟩
      have ht12 : t < 12 := by rw [← ht]; exact Nat.mod_lt _ (by omega)
      have cpt : ∀ W, Calls Try.prog 9 #[.int .i64 x.wh, .int .i64 12] W fun e w' => e = .returned (.int .i64 (t : Int)) ∧ W = w' := fun W => by
        have := pk x.wh 12 i0 (by omega) (by omega) W
        rw [ht] at this; exact this
      obtain ⟨ja, hja⟩ : ∃ t, pickC x.n % 129 = t := ⟨_, rfl⟩
      have hja8 : ja < 129 := by rw [← hja]; exact Nat.mod_lt _ (by omega)
      have cpj : ∀ W, Calls Try.prog 9 #[.int .i64 x.n, .int .i64 129] W fun e w' => e = .returned (.int .i64 (ja : Int)) ∧ W = w' := fun W => by
        have := pk x.n 129 i2 (by omega) (by omega) W
        rw [hja] at this; exact this
      obtain ⟨jb, hjb⟩ : ∃ t, pickC x.n % 130 = t := ⟨_, rfl⟩
      have hjb8 : jb < 130 := by rw [← hjb]; exact Nat.mod_lt _ (by omega)
      have cpb : ∀ W, Calls Try.prog 9 #[.int .i64 x.n, .int .i64 130] W fun e w' => e = .returned (.int .i64 (jb : Int)) ∧ W = w' := fun W => by
        have := pk x.n 130 i2 (by omega) (by omega) W
        rw [hjb] at this; exact this
      have cS := fun W => sector_any x.n i2 W
      have hs8 := sec_size x.n
      have hVO : VOk M := fun z => Nat.le_trans (hV z) (by omega)
      clear pk ht hja hjb
      generalize sec x.n = sq at *
      go_wp2_with (fail)
      refine (cpt _).mono ?_
      rintro e w' ⟨rfl, rfl⟩
      clear cpt e0 i0
      go_upto_block 2 with (fail)
      go_cut [12, 13, 61] from 62 to 152 (fun s12 _ _ wx => s12 = .bool true ∧ ∃ (Sa Sb : Nat → Prop) (M' : Mst), P8 w1 Sa Sb wx ma mb M' M' xb X ∧ Vn M' (k + 1))
      case first =>
       rcases (by omega : t = 0 ∨ t = 1 ∨ t = 2 ∨ t = 3 ∨ t = 4 ∨ t = 5 ∨ t = 6 ∨ t = 7 ∨ t = 8 ∨ t = 9 ∨ t = 10 ∨ t = 11) with rfl | rfl | rfl | rfl | rfl | rfl | rfl | rfl | rfl | rfl | rfl | rfl
       · as_aux_lemma =>
           have cA : ∀ W Sa Sb Mq, P8 w1 Sa Sb W ma mb M Mq xb X → Calls Try.prog 10 #[.pointer (some ⟨ma, 0, none⟩), .int .i64 x.at_, .string (sq)] W (DoesA w1 Sb ma mb (wrM M x.at_ (sq)) Mq xb X (.int .i64 (wrE M x.at_ (sq)))) := fun W Sa Sb Mq h => h.doA (ma_write h.a x.at_ (sq) hVO)
           have cQ : ∀ W Sa Sb Ma, P8 w1 Sa Sb W ma mb Ma M xb X → Calls Try.prog 12 #[.pointer (some ⟨mb, 0, none⟩), .int .i64 x.at_, .string (sq)] W (DoesQ w1 Sa ma mb Ma (wrM M x.at_ (sq)) xb X (.int .i64 (wrE M x.at_ (sq)))) := fun W Sa Sb Ma h => h.doQ (qa_write h.q x.at_ (sq) hVO (by omega))
           have hV2 : Vn (wrM M x.at_ (sq)) (k + 1) := hV.wr x.at_ _
           obtain ⟨E0, hE0⟩ : ∃ e, wrE M x.at_ (sq) = e := ⟨_, rfl⟩
           rw [hE0] at cA cQ
           have hee : (E0 == E0) = true := beq_self_eq_true _
           obtain ⟨M2, hM2⟩ : ∃ e, wrM M x.at_ (sq) = e := ⟨_, rfl⟩
           rw [hM2] at cA cQ hV2
           clear hE0 hM2
           have hPd := hP.drew
           clear hVO hV hS3
           go_wp2_with (fail)
           go_region_held3 (fun V => V.cell? ⟨xb, 1, none⟩ = some (.int .i64 x.at_) ∧ V.cell? ⟨xb, 2, none⟩ = some (.int .i64 x.n)) (first | exact ⟨hS1.out _ _ _ _ _ (by assumption), hS2.out _ _ _ _ _ (by assumption)⟩) (first
             | (go_at_call 11; refine (cS _).mono ?_; rintro e w7 ⟨rfl, b7⟩; have p7 := P8.after (by assumption) b7)
             | (go_at_call 10; refine (cA _ _ _ _ (by assumption)).mono ?_; rintro e w7 ⟨rfl, S7, p7⟩)
             | (go_at_call 12; refine (cQ _ _ _ _ (by assumption)).mono ?_; rintro e w7 ⟨rfl, S7, p7⟩))
           all_goals
             go_wp2_with (fail)
             go_meet
             exact ⟨rfl, _, _, _, (by assumption), hV2⟩
       · as_aux_lemma =>
           have cA : ∀ W Sa Sb Mq, P8 w1 Sa Sb W ma mb M Mq xb X → Calls Try.prog 10 #[.pointer (some ⟨ma, 0, none⟩), .int .i64 x.at_, .string (sq)] W (DoesA w1 Sb ma mb (wrM M x.at_ (sq)) Mq xb X (.int .i64 (wrE M x.at_ (sq)))) := fun W Sa Sb Mq h => h.doA (ma_write h.a x.at_ (sq) hVO)
           have cQ : ∀ W Sa Sb Ma, P8 w1 Sa Sb W ma mb Ma M xb X → Calls Try.prog 12 #[.pointer (some ⟨mb, 0, none⟩), .int .i64 x.at_, .string (sq)] W (DoesQ w1 Sa ma mb Ma (wrM M x.at_ (sq)) xb X (.int .i64 (wrE M x.at_ (sq)))) := fun W Sa Sb Ma h => h.doQ (qa_write h.q x.at_ (sq) hVO (by omega))
           have hV2 : Vn (wrM M x.at_ (sq)) (k + 1) := hV.wr x.at_ _
           obtain ⟨E0, hE0⟩ : ∃ e, wrE M x.at_ (sq) = e := ⟨_, rfl⟩
           rw [hE0] at cA cQ
           have hee : (E0 == E0) = true := beq_self_eq_true _
           obtain ⟨M2, hM2⟩ : ∃ e, wrM M x.at_ (sq) = e := ⟨_, rfl⟩
           rw [hM2] at cA cQ hV2
           clear hE0 hM2
           have hPd := hP.drew
           clear hVO hV hS3
           go_wp2_with (fail)
           go_region_held3 (fun V => V.cell? ⟨xb, 1, none⟩ = some (.int .i64 x.at_) ∧ V.cell? ⟨xb, 2, none⟩ = some (.int .i64 x.n)) (first | exact ⟨hS1.out _ _ _ _ _ (by assumption), hS2.out _ _ _ _ _ (by assumption)⟩) (first
             | (go_at_call 11; refine (cS _).mono ?_; rintro e w7 ⟨rfl, b7⟩; have p7 := P8.after (by assumption) b7)
             | (go_at_call 10; refine (cA _ _ _ _ (by assumption)).mono ?_; rintro e w7 ⟨rfl, S7, p7⟩)
             | (go_at_call 12; refine (cQ _ _ _ _ (by assumption)).mono ?_; rintro e w7 ⟨rfl, S7, p7⟩))
           all_goals
             go_wp2_with (fail)
             go_meet
             exact ⟨rfl, _, _, _, (by assumption), hV2⟩
       · as_aux_lemma =>
           have cA : ∀ W Sa Sb Mq, P8 w1 Sa Sb W ma mb M Mq xb X → Calls Try.prog 10 #[.pointer (some ⟨ma, 0, none⟩), .int .i64 x.at_, .string (sq)] W (DoesA w1 Sb ma mb (wrM M x.at_ (sq)) Mq xb X (.int .i64 (wrE M x.at_ (sq)))) := fun W Sa Sb Mq h => h.doA (ma_write h.a x.at_ (sq) hVO)
           have cQ : ∀ W Sa Sb Ma, P8 w1 Sa Sb W ma mb Ma M xb X → Calls Try.prog 12 #[.pointer (some ⟨mb, 0, none⟩), .int .i64 x.at_, .string (sq)] W (DoesQ w1 Sa ma mb Ma (wrM M x.at_ (sq)) xb X (.int .i64 (wrE M x.at_ (sq)))) := fun W Sa Sb Ma h => h.doQ (qa_write h.q x.at_ (sq) hVO (by omega))
           have hV2 : Vn (wrM M x.at_ (sq)) (k + 1) := hV.wr x.at_ _
           obtain ⟨E0, hE0⟩ : ∃ e, wrE M x.at_ (sq) = e := ⟨_, rfl⟩
           rw [hE0] at cA cQ
           have hee : (E0 == E0) = true := beq_self_eq_true _
           obtain ⟨M2, hM2⟩ : ∃ e, wrM M x.at_ (sq) = e := ⟨_, rfl⟩
           rw [hM2] at cA cQ hV2
           clear hE0 hM2
           have hPd := hP.drew
           clear hVO hV hS3
           go_wp2_with (fail)
           go_region_held3 (fun V => V.cell? ⟨xb, 1, none⟩ = some (.int .i64 x.at_) ∧ V.cell? ⟨xb, 2, none⟩ = some (.int .i64 x.n)) (first | exact ⟨hS1.out _ _ _ _ _ (by assumption), hS2.out _ _ _ _ _ (by assumption)⟩) (first
             | (go_at_call 11; refine (cS _).mono ?_; rintro e w7 ⟨rfl, b7⟩; have p7 := P8.after (by assumption) b7)
             | (go_at_call 10; refine (cA _ _ _ _ (by assumption)).mono ?_; rintro e w7 ⟨rfl, S7, p7⟩)
             | (go_at_call 12; refine (cQ _ _ _ _ (by assumption)).mono ?_; rintro e w7 ⟨rfl, S7, p7⟩))
           all_goals
             go_wp2_with (fail)
             go_meet
             exact ⟨rfl, _, _, _, (by assumption), hV2⟩
       · as_aux_lemma =>
           have hsl : ∀ W, (Instr.slice 9 (.string sq) none (some (.int .i64 (ja : Int))) none).run Try.prog W = .ok (.string (sq.extract 0 ja)) W := fun W => slice_to_run Try.underlying9 sq _ ja rfl (by omega) W
           have hpz : (sq.extract 0 ja).size ≤ 140737488355328 := by rw [ByteArray.size_extract]; omega
           have hPd := hP.drew
           go_wp2_with (fail)
           go_region_held3 (fun V => V.cell? ⟨xb, 2, none⟩ = some (.int .i64 x.n)) (first | exact hS2.out _ _ _ _ _ (by assumption)) (first
             | (go_at_call 11; refine (cS _).mono ?_; rintro e w7 ⟨rfl, b7⟩; have p7 := P8.after (by assumption) b7)
             | (go_at_call 9; refine (cpj _).mono ?_; rintro e w' ⟨rfl, rfl⟩))
           all_goals
             generalize sq.extract 0 ja = sp at *
             have hP := p7
             skip
             have cA : ∀ W Sa Sb Mq, P8 w1 Sa Sb W ma mb M Mq xb X → Calls Try.prog 10 #[.pointer (some ⟨ma, 0, none⟩), .int .i64 x.at_, .string (sp)] W (DoesA w1 Sb ma mb (wrM M x.at_ (sp)) Mq xb X (.int .i64 (wrE M x.at_ (sp)))) := fun W Sa Sb Mq h => h.doA (ma_write h.a x.at_ (sp) hVO)
             have cQ : ∀ W Sa Sb Ma, P8 w1 Sa Sb W ma mb Ma M xb X → Calls Try.prog 12 #[.pointer (some ⟨mb, 0, none⟩), .int .i64 x.at_, .string (sp)] W (DoesQ w1 Sa ma mb Ma (wrM M x.at_ (sp)) xb X (.int .i64 (wrE M x.at_ (sp)))) := fun W Sa Sb Ma h => h.doQ (qa_write h.q x.at_ (sp) hVO (hpz))
             have hV2 : Vn (wrM M x.at_ (sp)) (k + 1) := hV.wr x.at_ _
             obtain ⟨E0, hE0⟩ : ∃ e, wrE M x.at_ (sp) = e := ⟨_, rfl⟩
             rw [hE0] at cA cQ
             have hee : (E0 == E0) = true := beq_self_eq_true _
             obtain ⟨M2, hM2⟩ : ∃ e, wrM M x.at_ (sp) = e := ⟨_, rfl⟩
             rw [hM2] at cA cQ hV2
             clear hE0 hM2
             have hPd := hP.drew
             clear hVO hV hS3
             go_wp2_with (fail)
             go_region_held3 (fun V => V.cell? ⟨xb, 1, none⟩ = some (.int .i64 x.at_)) (first | exact hS1.out _ _ _ _ _ (by assumption)) (first
               | (go_at_call 10; refine (cA _ _ _ _ (by assumption)).mono ?_; rintro e w7 ⟨rfl, S7, p7⟩)
               | (go_at_call 12; refine (cQ _ _ _ _ (by assumption)).mono ?_; rintro e w7 ⟨rfl, S7, p7⟩))
             all_goals
               go_wp2_with (fail)
               go_meet
               exact ⟨rfl, _, _, _, (by assumption), hV2⟩
       · as_aux_lemma =>
           have cA : ∀ W Sa Sb Mq, P8 w1 Sa Sb W ma mb M Mq xb X → Calls Try.prog 13 #[.pointer (some ⟨ma, 0, none⟩)] W (DoesA w1 Sb ma mb (flM M) Mq xb X (.int .i64 (flE M))) := fun W Sa Sb Mq h => h.doA (ma_flush h.a hVO)
           have cQ : ∀ W Sa Sb Ma, P8 w1 Sa Sb W ma mb Ma M xb X → Calls Try.prog 14 #[.pointer (some ⟨mb, 0, none⟩)] W (DoesQ w1 Sa ma mb Ma (flM M) xb X (.int .i64 (flE M))) := fun W Sa Sb Ma h => h.doQ (qa_flush h.q hVO)
           have hV2 : Vn (flM M) (k + 1) := (hV.fl).le (by omega)
           obtain ⟨E0, hE0⟩ : ∃ e, flE M = e := ⟨_, rfl⟩
           rw [hE0] at cA cQ
           have hee : (E0 == E0) = true := beq_self_eq_true _
           clear hE0
           clear hVO hV
           go_wp2_with (fail)
           refine (cA _ _ _ _ hP).mono ?_
           rintro e w4 ⟨rfl, S4, p4⟩
           go_wp2_with (fail)
           refine (cQ _ _ _ _ p4).mono ?_
           rintro e w5 ⟨rfl, S5, p5⟩
           go_wp2_with (fail)
           go_meet
           exact ⟨rfl, _, _, _, p5, hV2⟩
       · as_aux_lemma =>
           have hcS : ∀ W Sa Sb Ma Mq, P8 w1 Sa Sb W ma mb Ma Mq xb X → Reads W (.slice ca cn ccp) (x.l.map (.int .i64)) ∧ (x.l ≠ [] → ∀ b, (Value.slice ca cn ccp).ownBlock = some b → ¬ Sa b) ∧ (x.l ≠ [] → ∀ b, (Value.slice ca cn ccp).ownBlock = some b → ¬ Sb b) := fun W Sa Sb Ma Mq h => by
             refine ⟨hC.below h.a.b, fun hne b hb hs => ?_, fun hne b hb hs => ?_⟩
             · have := hC.blk (by simpa using hne) b hb
               have := h.a.from b hs
               omega
             · have := hC.blk (by simpa using hne) b hb
               have := h.q.from b hs
               omega
           have cA : ∀ W Sa Sb Mq, P8 w1 Sa Sb W ma mb M Mq xb X → Calls Try.prog 15 #[.pointer (some ⟨ma, 0, none⟩), .slice ca cn ccp] W (DoesA w1 Sb ma mb (crM M x.l) Mq xb X (.tuple #[])) := fun W Sa Sb Mq h => h.doA (ma_crash h.a _ x.l (hcS _ _ _ _ _ h).1 (hcS _ _ _ _ _ h).2.1 hCI hCn hVO)
           have cQ : ∀ W Sa Sb Ma, P8 w1 Sa Sb W ma mb Ma M xb X → Calls Try.prog 16 #[.pointer (some ⟨mb, 0, none⟩), .slice ca cn ccp] W (DoesQ w1 Sa ma mb Ma (crM M x.l) xb X (.tuple #[])) := fun W Sa Sb Ma h => h.doQ (qa_crash h.q _ x.l (hcS _ _ _ _ _ h).1 (hcS _ _ _ _ _ h).2.2 hCI hCn hVO)
           have hV2 : Vn (crM M x.l) (k + 1) := Vn.none _ _ _
           have e3 := hS3.out _ _ _ _ _ hP
           clear hcS
           clear hVO hV
           go_wp2_with (fail)
           refine (cA _ _ _ _ hP).mono ?_
           rintro e w4 ⟨rfl, S4, p4⟩
           have e34 := hS3.out _ _ _ _ _ p4
           go_wp2_with (fail)
           refine (cQ _ _ _ _ p4).mono ?_
           rintro e w5 ⟨rfl, S5, p5⟩
           go_wp2_with (fail)
           go_meet
           exact ⟨rfl, _, _, _, p5, hV2⟩
       · as_aux_lemma =>
           have cA : ∀ W Sa Sb Mq, P8 w1 Sa Sb W ma mb M Mq xb X → Calls Try.prog 17 #[.pointer (some ⟨ma, 0, none⟩)] W (DoesA w1 Sb ma mb (faM M) Mq xb X (.tuple #[])) := fun W Sa Sb Mq h => h.doA (ma_fail h.a)
           have cQ : ∀ W Sa Sb Ma, P8 w1 Sa Sb W ma mb Ma M xb X → Calls Try.prog 18 #[.pointer (some ⟨mb, 0, none⟩)] W (DoesQ w1 Sa ma mb Ma (faM M) xb X (.tuple #[])) := fun W Sa Sb Ma h => h.doQ (qa_fail h.q)
           have hV2 : Vn (faM M) (k + 1) := Vn.none _ _ _
           clear hVO hV
           go_wp2_with (fail)
           refine (cA _ _ _ _ hP).mono ?_
           rintro e w4 ⟨rfl, S4, p4⟩
           go_wp2_with (fail)
           refine (cQ _ _ _ _ p4).mono ?_
           rintro e w5 ⟨rfl, S5, p5⟩
           go_wp2_with (fail)
           go_meet
           exact ⟨rfl, _, _, _, p5, hV2⟩
       · as_aux_lemma =>
           have cA : ∀ W Sa Sb Mq, P8 w1 Sa Sb W ma mb M Mq xb X → Calls Try.prog 19 #[.pointer (some ⟨ma, 0, none⟩)] W (DoesA w1 Sb ma mb (blM M) Mq xb X (.tuple #[])) := fun W Sa Sb Mq h => h.doA (ma_blank h.a)
           have cQ : ∀ W Sa Sb Ma, P8 w1 Sa Sb W ma mb Ma M xb X → Calls Try.prog 20 #[.pointer (some ⟨mb, 0, none⟩)] W (DoesQ w1 Sa ma mb Ma (blM M) xb X (.tuple #[])) := fun W Sa Sb Ma h => h.doQ (qa_blank h.q)
           have hV2 : Vn (blM M) (k + 1) := Vn.none _ _ _
           clear hVO hV
           go_wp2_with (fail)
           refine (cA _ _ _ _ hP).mono ?_
           rintro e w4 ⟨rfl, S4, p4⟩
           go_wp2_with (fail)
           refine (cQ _ _ _ _ p4).mono ?_
           rintro e w5 ⟨rfl, S5, p5⟩
           go_wp2_with (fail)
           go_meet
           exact ⟨rfl, _, _, _, p5, hV2⟩
       · as_aux_lemma =>
           obtain ⟨jc, hjc⟩ : ∃ jc : Int, (jb : Int) - 1 = jc := ⟨_, rfl⟩
           have wjc : IntKind.i64.wrap ((jb : Int) - 1) = jc := by rw [hjc]; exact wrap_in (by omega) (by omega)
           have cA : ∀ W Sa Sb Mq, P8 w1 Sa Sb W ma mb M Mq xb X → Calls Try.prog 21 #[.pointer (some ⟨ma, 0, none⟩), .int .i64 x.at_, .int .i64 jc, .int .i64 x.n] W (DoesA w1 Sb ma mb (roM M x.at_ jc x.n) Mq xb X (.bool (rotB M.fd M.L M.V x.at_ jc x.n))) := fun W Sa Sb Mq h => h.doA (ma_rot h.a x.at_ jc x.n i1)
           have cQ : ∀ W Sa Sb Ma, P8 w1 Sa Sb W ma mb Ma M xb X → Calls Try.prog 22 #[.pointer (some ⟨mb, 0, none⟩), .int .i64 x.at_, .int .i64 jc, .int .i64 x.n] W (DoesQ w1 Sa ma mb Ma (roM M x.at_ jc x.n) xb X (.bool (rotB M.fd M.L M.V x.at_ jc x.n))) := fun W Sa Sb Ma h => h.doQ (qa_rot h.q x.at_ jc x.n)
           have hV2 : Vn (roM M x.at_ jc x.n) (k + 1) := (hV.ro _ _ _).le (by omega)
           obtain ⟨E0, hE0⟩ : ∃ e, rotB M.fd M.L M.V x.at_ jc x.n = e := ⟨_, rfl⟩
           rw [hE0] at cA cQ
           have hee : (E0 == E0) = true := beq_self_eq_true _
           obtain ⟨M2, hM2⟩ : ∃ e, roM M x.at_ jc x.n = e := ⟨_, rfl⟩
           rw [hM2] at cA cQ hV2
           clear hE0 hM2 hjc
           have hPd := hP.drew
           clear hVO hV hS3
           go_wp2_with (fail)
           go_region_held3 (fun V => V.cell? ⟨xb, 1, none⟩ = some (.int .i64 x.at_) ∧ V.cell? ⟨xb, 2, none⟩ = some (.int .i64 x.n)) (first | exact ⟨hS1.out _ _ _ _ _ (by assumption), hS2.out _ _ _ _ _ (by assumption)⟩) (first
             | (go_at_call 9; refine (cpb _).mono ?_; rintro e w' ⟨rfl, rfl⟩)
             | (go_at_call 21; refine (cA _ _ _ _ (by assumption)).mono ?_; rintro e w7 ⟨rfl, S7, p7⟩)
             | (go_at_call 22; refine (cQ _ _ _ _ (by assumption)).mono ?_; rintro e w7 ⟨rfl, S7, p7⟩))
           all_goals
             go_wp2_with (fail)
             go_meet
             exact ⟨rfl, _, _, _, (by assumption), hV2⟩
       · as_aux_lemma =>
           go_wp2_with (fail)
           go_meet
           exact ⟨rfl, _, _, _, hP, hV.le (by omega)⟩
       · as_aux_lemma =>
           go_wp2_with (fail)
           go_meet
           exact ⟨rfl, _, _, _, hP, hV.le (by omega)⟩
       · as_aux_lemma =>
           go_wp2_with (fail)
           go_meet
           exact ⟨rfl, _, _, _, hP, hV.le (by omega)⟩
      case rest =>
      obtain ⟨rfl, Sa', Sb', M', hP', hV'⟩ := hcut
      clear hP cS cpj cpb hS2 hS3 hVO hV hC hCI hCn hs8 ht12 hja8 hjb8
      as_aux_lemma =>
        have hL256 := hP'.a.n2
        have hVO : VOk M' := fun z => Nat.le_trans (hV' z) (by omega)
        have cRa : ∀ W Sa Sb, P8 w1 Sa Sb W ma mb M' M' xb X → Calls Try.prog 23 #[.pointer (some ⟨ma, 0, none⟩), .int .i64 x.at_] W fun e w' => e = .returned (.tuple #[.string (rdS M' x.at_), .int .i64 (rdE M' x.at_)]) ∧ Below W.heap.size W w' := fun W Sa Sb h => ma_read h.a x.at_ hVO
        have cRq : ∀ W Sa Sb, P8 w1 Sa Sb W ma mb M' M' xb X → Calls Try.prog 24 #[.pointer (some ⟨mb, 0, none⟩), .int .i64 x.at_] W fun e w' => e = .returned (.tuple #[.string (rdS M' x.at_), .int .i64 (rdE M' x.at_)]) ∧ W = w' := fun W Sa Sb h => qa_read h.q x.at_ hVO
        obtain ⟨R, hR⟩ : ∃ r, rdS M' x.at_ = r := ⟨_, rfl⟩
        obtain ⟨E0, hE0⟩ : ∃ r, rdE M' x.at_ = r := ⟨_, rfl⟩
        rw [hR, hE0] at cRa cRq
        clear hR hE0
        have tq : (R.toList != R.toList) = false := bne_self_eq_false _
        have tq' : (R.toList == R.toList) = true := beq_self_eq_true _
        have te : (E0 != E0) = false := bne_self_eq_false _
        have cAa : ∀ W Sa Sb, P8 w1 Sa Sb W ma mb M' M' xb X → Calls Try.prog 25 #[.pointer (some ⟨ma, 0, none⟩)] W fun e w' => e = .returned (.bool (!M'.fd)) ∧ W = w' := fun W Sa Sb h => ma_alive h.a
        have cAq : ∀ W Sa Sb, P8 w1 Sa Sb W ma mb M' M' xb X → Calls Try.prog 26 #[.pointer (some ⟨mb, 0, none⟩)] W fun e w' => e = .returned (.bool (!M'.fd)) ∧ W = w' := fun W Sa Sb h => qa_alive h.q
        have cZa : ∀ W Sa Sb, P8 w1 Sa Sb W ma mb M' M' xb X → Calls Try.prog 27 #[.pointer (some ⟨ma, 0, none⟩)] W fun e w' => e = .returned (.int .i64 (M'.L.length : Int)) ∧ W = w' := fun W Sa Sb h => ma_size h.a
        have cZq : ∀ W Sa Sb, P8 w1 Sa Sb W ma mb M' M' xb X → Calls Try.prog 28 #[.pointer (some ⟨mb, 0, none⟩)] W fun e w' => e = .returned (.int .i64 (M'.L.length : Int)) ∧ W = w' := fun W Sa Sb h => qa_size h.q
        have cVa : ∀ W Sa Sb, P8 w1 Sa Sb W ma mb M' M' xb X → Calls Try.prog 29 #[.pointer (some ⟨ma, 0, none⟩), .int .i64 x.at_] W fun e w' => e = .returned (.int .i64 ((M'.V x.at_).length : Int)) ∧ W = w' := fun W Sa Sb h => ma_vers h.a x.at_ i1
        have cVq : ∀ W Sa Sb, P8 w1 Sa Sb W ma mb M' M' xb X → Calls Try.prog 30 #[.pointer (some ⟨mb, 0, none⟩), .int .i64 x.at_] W fun e w' => e = .returned (.int .i64 ((M'.V x.at_).length : Int)) ∧ W = w' := fun W Sa Sb h => qa_vers h.q x.at_
        have cPa : ∀ W Sa Sb, P8 w1 Sa Sb W ma mb M' M' xb X → Calls Try.prog 32 #[.pointer (some ⟨ma, 0, none⟩)] W (GivesP W (pend M'.L.length M'.V)) := fun W Sa Sb h => ma_pend h.a
        have cPq : ∀ W Sa Sb, P8 w1 Sa Sb W ma mb M' M' xb X → Calls Try.prog 33 #[.pointer (some ⟨mb, 0, none⟩)] W (GivesP W (pend M'.L.length M'.V)) := fun W Sa Sb h => qa_pend h.q
        have cIa : ∀ W Sa Sb, P8 w1 Sa Sb W ma mb M' M' xb X → Calls Try.prog 35 #[.pointer (some ⟨ma, 0, none⟩)] W (GivesQ W (imL M')) := fun W Sa Sb h => ma_image h.a
        have cIq : ∀ W Sa Sb, P8 w1 Sa Sb W ma mb M' M' xb X → Calls Try.prog 36 #[.pointer (some ⟨mb, 0, none⟩)] W (GivesQ W (imL M')) := fun W Sa Sb h => qa_image h.q
        have hPl : (pend M'.L.length M'.V).length ≤ 256 := Nat.le_trans (pend_le _ _) hL256
        have hIl : (imL M').length ≤ 256 := by unfold imL; split; exact Nat.zero_le _; exact hL256
        have cIn : ∀ W ua ub, Reads W ua ((pend M'.L.length M'.V).map (.int .i64)) → Reads W ub ((pend M'.L.length M'.V).map (.int .i64)) → Calls Try.prog 31 #[ua, ub] W (SaysB W true) := fun W ua ub h1 h2 => by
          have := ints8_any ua ub _ _ W h1 h2 (by omega) (by omega)
          rw [decide_eq_true rfl] at this; exact this
        have cSm : ∀ W ua ub, Reads W ua ((imL M').map .string) → Reads W ub ((imL M').map .string) → Calls Try.prog 34 #[ua, ub] W (SaysB W true) := fun W ua ub h1 h2 => by
          have := same_any ua ub _ _ W h1 h2 (by omega) (by omega)
          rw [decide_eq_true rfl] at this; exact this
        clear hPl hIl hVO hL256
        obtain ⟨A0, hA0⟩ : ∃ r, (!M'.fd) = r := ⟨_, rfl⟩
        rw [hA0] at cAa cAq
        have ta : (A0 != A0) = false := bne_self_eq_false _
        obtain ⟨Z0, hZ0⟩ : ∃ r : Int, (M'.L.length : Int) = r := ⟨_, rfl⟩
        rw [hZ0] at cZa cZq
        have tz : (Z0 != Z0) = false := bne_self_eq_false _
        obtain ⟨V0, hV0⟩ : ∃ r : Int, ((M'.V x.at_).length : Int) = r := ⟨_, rfl⟩
        rw [hV0] at cVa cVq
        have tv : (V0 != V0) = false := bne_self_eq_false _
        clear hA0 hZ0 hV0
        generalize (pend M'.L.length M'.V) = PL at *
        generalize imL M' = IL at *
        have e1 := hS1.out _ _ _ _ _ hP'
        go_wp2_with (fail)
        refine (cRa _ _ _ hP').mono ?_
        rintro e w4 ⟨rfl, b4⟩
        have p4 := hP'.after b4
        have e14 := hS1.out _ _ _ _ _ p4
        clear hP' cRa
        go_wp2_with (fail)
        refine (cRq _ _ _ p4).mono ?_
        rintro e w' ⟨rfl, rfl⟩
        have p5 := p4.drew
        clear cRq b4
        go_wp2_with (fail)
        go_region_held3 (fun V => V.cell? ⟨xb, 1, none⟩ = some (.int .i64 x.at_)) (first | exact hS1.out _ _ _ _ _ (by assumption)) (first
          | (go_at_call 25; refine (cAa _ _ _ (by assumption)).mono ?_; rintro e w' ⟨rfl, rfl⟩)
          | (go_at_call 26; refine (cAq _ _ _ (by assumption)).mono ?_; rintro e w' ⟨rfl, rfl⟩)
          | (go_at_call 27; refine (cZa _ _ _ (by assumption)).mono ?_; rintro e w' ⟨rfl, rfl⟩)
          | (go_at_call 28; refine (cZq _ _ _ (by assumption)).mono ?_; rintro e w' ⟨rfl, rfl⟩)
          | (go_at_call 29; refine (cVa _ _ _ (by assumption)).mono ?_; rintro e w' ⟨rfl, rfl⟩)
          | (go_at_call 30; refine (cVq _ _ _ (by assumption)).mono ?_; rintro e w' ⟨rfl, rfl⟩)
          | (go_at_call 32; refine (cPa _ _ _ (by assumption)).mono ?_; rintro e w7 ⟨u7, rfl, b7, o7⟩; have p7 := P8.after (by assumption) b7)
          | (go_at_call 33; refine (cPq _ _ _ (by assumption)).mono ?_; rintro e w8 ⟨u8, rfl, b8, o8⟩; have p8 := P8.after (by assumption) b8; have r7 := o7.reads.below b8)
          | (go_at_call 31; refine (cIn _ _ _ r7 o8.reads).mono ?_; rintro e w9 ⟨rfl, b9, h9⟩; clear h9; have p9 := P8.after (by assumption) b9)
          | (go_at_call 35; refine (cIa _ _ _ (by assumption)).mono ?_; rintro e wA ⟨uA, rfl, bA, oA⟩; have pA := P8.after (by assumption) bA)
          | (go_at_call 36; refine (cIq _ _ _ (by assumption)).mono ?_; rintro e wB ⟨uB, rfl, bB, oB⟩; have pB := P8.after (by assumption) bB; have rA := oA.reads.below bB)
          | (go_at_call 34; refine (cSm _ _ _ rA oB.reads).mono ?_; rintro e wC ⟨rfl, bC, hC9⟩; clear hC9; have pC := P8.after (by assumption) bC))
        all_goals
          go_wp2_with (fail)
          go_roundw
          case rel => exact ⟨k + 1, by omega, by omega, by go_num, _, _, _, pC.a, pC.q, pC.d, hV'⟩
          case measure => simp [intOf]; omega
    · have hcd : ((k : Int) < (la.length : Int) ∧ ¬ ((k : Int) < 200)) ∨ ¬ ((k : Int) < (la.length : Int)) := by omega
      have hfin := Lib.hid (hb1H.out.trans (ha.b.mono hb1H.out.size))
      clear ha hq hd hlt
      rcases hcd with ⟨kx, k50⟩ | kx
      · go_wp2_with (fail)
        go_ret
        exact ⟨rfl, hfin.out⟩
      · go_wp2_with (fail)
        go_ret
        exact ⟨rfl, hfin.out⟩
end Go.Proofs.Ytofhmdbilhdblaa
