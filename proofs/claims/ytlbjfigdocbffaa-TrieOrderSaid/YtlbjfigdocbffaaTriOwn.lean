/- trie: a node of its own. -/
import Derived.Test.YtlbjfigdocbffaaTriEnter
namespace Go.Proofs.Ytlbjfigdocbffaa
open Go.RowKit
set_option linter.unusedVariables false
set_option linter.unusedSimpArgs false

section
variable {P : Program} {ops : Array Oper} {o : Oper} {a : Act} {w w' : World} {K : Act → World → Prop} {Q : Exit → Act → World → Prop} {E : Prop}
theorem step_store_run {ty : TypeId} {p v : Value} (hr : (Instr.storeAt ty p v).run P w = .ok () w') (x y : Operand) (hg : o.guard = none) (hop : o.op = .store ty x y) (hx : a.eval x = p) (hy : a.eval y = v) {d : Option Tmp} (hd : o.dst = d) (hK : K (a.put d undef) w') :
    if Region.wanted o (yielded ops a.tmps) = true then Oper.wp P o a w K Q else E := by
  have hw : Region.wanted o (yielded ops a.tmps) = true := by simp [Region.wanted, hg]
  rw [if_pos hw]
  subst hd
  unfold Oper.wp execOp
  simp only [hop, hx, hy, Sem.run_bind, Sem.run_pure, hr, Result.andThen_ok]
  exact hK
theorem yieldsIf_load_run {S : World → Prop} {ty : TypeId} {p v : Value} (hw : Region.wanted o (yielded ops a.tmps) = true) (x : Operand) (ho : o.op = .load ty x) (hx : a.eval x = p) (hS : ∀ w, S w → (Instr.loadAt ty p).run P w = .ok v w) : YieldsIf P ops S o v a :=
  .inl ⟨hw, fun w hw' => by
    unfold execOp
    simp only [ho, hx, Sem.run_bind, Sem.run_pure, hS w hw', Result.andThen_ok]⟩

end
theorem nd_storeAt {w : World} {b : Nat} {cur : Array Value} (h : w.heap[b]? = some (.cells cur 91 (0, 0))) (hc : cur.size = 16) (e : Nat → Nat) :
    (Instr.storeAt 91 (.pointer (some ⟨b, 0, none⟩)) (.agg (ndL e).toArray)).run Try.prog w = .ok () (w.setRow b (ndL e).toArray) := by
  have h1 := nd_store h hc e
  have h2 := nd_isa e
  simp [Instr.storeAt, Instr.sureAddr, asAddr, storeVar, Value.cells, h1, ndL_len]
theorem res_own {tm : Array Value} {W : World} {b : Nat} {e : Nat → Nat} {t q : Int} (h : W.heap[b]? = some (.cells (ndL e).toArray 91 (0, 0))) (h1 : tm.getD 4 undef = .int .i64 t) (h2 : tm.getD 5 undef = .pointer (some ⟨b, 0, none⟩)) (h3 : tm.getD 6 undef = .int .i64 q) :
    (results Try.f57 tm).run Try.prog W = .ok (.tuple #[.int .i64 t, .agg (ndL e).toArray, .int .i64 q]) W := by
  have h1' : tm[4]?.getD undef = .int .i64 t := by simpa using h1
  have h2' : tm[5]?.getD undef = .pointer (some ⟨b, 0, none⟩) := by simpa using h2
  have h3' : tm[6]?.getD undef = .int .i64 q := by simpa using h3
  have hl := nd_cells h
  have hv : (loadVar 91 ⟨b, 0, none⟩).run Try.prog W = .ok (.agg (ndL e).toArray) W := by simpa [Instr.loadAt, Instr.sureAddr, asAddr] using hl
  simp [results, asAddr, hv, Try.results57, h1', h2', h3', hl]
section
variable {w w' w1 : World} {h g m n : Nat} {u : Value} {C C' : Nat → Nat} {Z Z' : Int → Bool} {X X' : Nat → ByteArray} {v : Value} {x : Ending}
theorem cntV_nat {b : Nat} (hb : b < n) : cntV n C (b : Int) = C b := by unfold cntV; rw [if_pos ⟨by omega, by omega⟩]; rfl

set_option maxRecDepth 100000 in
set_option maxHeartbeats 2000000 in
/-- Nobody else refers to it: it is its own. -/
theorem own_one (H : Hp w h g m n u C Z X) (b : Nat) (h3 : 3 ≤ b) (hb : b < n) (hc : C b = 1) (e : Nat → Nat) (hx : X b = ntext e) (hk : Ents n C e) :
    Calls Try.prog 57 #[.pointer (some ⟨h, 0, none⟩), .int .i64 (b : Int)] w (Same2 w (.tuple #[.int .i64 (b : Int), .agg (ndL e).toArray, .int .i64 0])) := by
  have he := hk.le H.small.n200
  have hn := H.small.n200
  obtain ⟨gg, hgg⟩ : ∃ gg, w.heap.size = gg := ⟨_, rfl⟩
  obtain ⟨w1, hw1⟩ : ∃ w1, w1 = w.alloc (.cells nd0 91) := ⟨_, rfl⟩
  have b1 : Below gg w w1 := by rw [hw1]; exact (Below.refl _ _).alloc (by omega) _
  have n1 : w1.heap[gg]? = some (.cells nd0 91 (0, 0)) := by rw [hw1, ← hgg]; exact heap_alloc_new _ _
  have s1 : w1.heap.size = gg + 1 := by rw [hw1]; simp [hgg]
  have H1 : Hp w1 h g m n u C Z X := H.below (by rw [hgg]; exact b1)
  have cn : Calls Try.prog 42 #[.pointer (some ⟨h, 0, none⟩), .int .i64 (b : Int)] w1 (GivesN w1 e) := by
    obtain ⟨F, H1⟩ := H1
    exact node_good H1 b h3 hb (by omega) e hx hk
  have HB := Lib.hid b1
  have HN := Lib.hid n1
  have HS := Lib.hid s1
  have HH := Lib.hid H1
  have HG := Lib.hid (show g < gg from by rw [← hgg]; exact H.t.lt)
  have HM := Lib.hid (show m < gg from by rw [← hgg]; obtain ⟨F, H⟩ := H; exact H.p.lt)
  have HK := Lib.hid hk
  have HE := Lib.hid he
  have hgg2 := Lib.hid hgg
  have hb3 := Lib.hid h3
  have hbn := Lib.hid hb
  have hcc := Lib.hid hc
  skip
  clear hx hk he b1 n1 s1 H1 H h3 hb hc hn 
  go_enter Try.func57, Try.ntmps57
  go_wp2_with (fail)
  rw [show w.alloc (.cells #[.int .u8 0, .int .u8 0, .int .u8 0, .int .u8 0, .int .u8 0, .int .u8 0, .int .u8 0, .int .u8 0, .int .u8 0, .int .u8 0, .int .u8 0, .int .u8 0, .int .u8 0, .int .u8 0, .int .u8 0, .int .u8 0] 91) = w1 from hw1.symm]
  clear hw1 hgg
  refine cn.mono ?_
  rintro x w2 ⟨rfl, b2⟩
  obtain ⟨g3, hg3⟩ : ∃ g3, w2.heap.size = g3 := ⟨_, rfl⟩
  have hst : (storeCells ⟨g3, 0, none⟩ (ndL e) 0).run Try.prog (w2.alloc (.cells #[.int .u8 0, .int .u8 0, .int .u8 0, .int .u8 0, .int .u8 0, .int .u8 0, .int .u8 0, .int .u8 0, .int .u8 0, .int .u8 0, .int .u8 0, .int .u8 0, .int .u8 0, .int .u8 0, .int .u8 0, .int .u8 0] 91)) = .ok () (w2.alloc (.cells (ndL e).toArray 91)) := by
    rw [← hg3]; exact run_storeCells_new (P := Try.prog) w2 91 nd0 (ndL e).toArray (nd_isa e) (by rw [nd_size]; rfl) (nd_one e)
  obtain ⟨w4, hw4⟩ : ∃ w4, w4 = w2.alloc (.cells (ndL e).toArray 91) := ⟨_, rfl⟩
  rw [← hw4] at hst
  have q4 : Below w1.heap.size w1 w4 := by rw [hw4]; exact b2.alloc (by have := b2.size; omega) _
  have hs4 : gg + 1 ≤ g3 ∧ g3 < w4.heap.size := by
    rw [hw4]; have := b2.size; rw [HS.out] at *; simp; omega
  have b4 := Lib.hid (HB.out.trans (q4.mono (by rw [HS.out]; omega)))
  have n4 : w4.heap[g3]? = some (.cells (ndL e).toArray 91 (0, 0)) := by rw [hw4, ← hg3]; exact heap_alloc_new _ _
  have m4 : w4.heap[gg]? = some (.cells nd0 91 (0, 0)) := by rw [q4.block gg (by rw [HS.out]; omega)]; exact HN.out
  have H4 : Hp w4 h g m n u C Z X := HH.out.below q4
  have cc := count_any g n C b w4 H4.t H4.small
  rw [cntV_nat hbn.out] at cc
  have c1 := H4.c1
  clear hw4 q4 b2 cn
  rw [hcc.out] at cc
  have n4' : w4.drew.heap[g3]? = some (.cells (ndL e).toArray 91 (0, 0)) := n4
  have hld := nd_cells n4'
  have hst5 := nd_storeAt (w := w4.drew) m4 rfl e
  have hld2 : (Instr.loadAt 91 (.pointer (some ⟨g3, 0, none⟩))).run Try.prog (w4.drew.setRow gg (ndL e).toArray) = .ok (.agg (ndL e).toArray) (w4.drew.setRow gg (ndL e).toArray) := nd_cells ((setRow_other w4.drew gg g3 _ (by omega)).trans n4')
  have HF := Lib.hid (setRow_nd (w := w4.drew) m4 e)
  have hfin : Hid (Below gg w (w4.drew.setRow gg (ndL e).toArray)) := Lib.hid (below_setRow b4.out.drew (Nat.le_refl _) _)
  have hmix : Try.prog.follows .mixedOrders = true := by kernel_rfl
  clear n4 n4' m4 H4 hs4
  go_wp2_with (fail)
  clear hst hg3
  refine cc.mono ?_
  rintro x w' ⟨rfl, rfl⟩
  go_upto_region 5 with (fail)
  refine wp_region_held_drew (S := fun W => (Instr.loadAt 91 (.pointer (some ⟨g3, 0, none⟩))).run Try.prog W = .ok (.agg (ndL e).toArray) W) (by kernel_rfl) hld (fun hHeld => ?_)
  refine wpAnyH_takeD (i := 0) (some 32) rfl (by kernel_rfl) (by kernel_rfl) (by kernel_rfl) rfl (fun _ _ _ h => h) (Or.inl ⟨by rfl, by intro w hSw; go_simp; try rfl⟩) (by assumption) ?_
  simp only [Act.put, List.setIfInBounds_toArray, List.set_cons_zero, List.set_cons_succ]
  refine wpAnyH_takeD (i := 1) (some 33) rfl (by kernel_rfl) (by kernel_rfl) (by kernel_rfl) rfl (fun _ _ _ h => h) (yieldsIf_load_run (by rfl) _ rfl rfl (fun w hS => hS)) (by assumption) ?_
  simp only [Act.put, List.setIfInBounds_toArray, List.set_cons_zero, List.set_cons_succ]
  refine wpAnyH_takeD (i := 2) (some 4) rfl (by kernel_rfl) (by kernel_rfl) (by kernel_rfl) rfl (fun _ _ _ h => h) (Or.inl ⟨by rfl, by intro w hSw; go_simp; try rfl⟩) (by assumption) ?_
  simp only [Act.put, List.setIfInBounds_toArray, List.set_cons_zero, List.set_cons_succ]
  refine wpAnyH_ready (rs := [3]) (by kernel_rfl) (by simp) ?_
  refine AllReadyH.cons rfl (fun K hK => ?_) AllReadyH.nil
  refine step_store_run (d := none) hst5 _ _ rfl rfl rfl rfl rfl ?_
  refine hK.out _ _ hld2 (fun hHeld => ?_)
  clear hK
  simp only [Act.put, List.setIfInBounds_toArray, List.set_cons_zero, List.set_cons_succ]
  refine wpAnyH_takeD (i := 4) (some 6) rfl (by kernel_rfl) (by kernel_rfl) (by kernel_rfl) rfl (fun _ _ _ h => h) (Or.inl ⟨by rfl, by intro w hSw; go_simp; try rfl⟩) (by assumption) ?_
  simp only [Act.put, List.setIfInBounds_toArray, List.set_cons_zero, List.set_cons_succ]
  refine wpAnyH_done (by kernel_rfl) ?_ _
  go_wp2_with (fail)
  refine bodyPost_ret (res_own HF.out rfl rfl rfl) rfl ⟨rfl, ?_⟩
  rw [hgg2.out]; exact hfin.out
/-- Counts when the entries before one are counted too. -/
def cAdd (C : Nat → Nat) (e : Nat → Nat) (k : Nat) : Nat → Nat := fun x => C x + Tri.sumTo (fun j => if e j ≠ 0 ∧ e j = x then 1 else 0) k
theorem cAdd_zero (C : Nat → Nat) (e : Nat → Nat) : cAdd C e 0 = C := by funext x; simp [cAdd, Tri.sumTo]
theorem cAdd_skip (C : Nat → Nat) {e : Nat → Nat} {k : Nat} (h : e k = 0) : cAdd C e (k + 1) = cAdd C e k := by
  funext x
  simp only [cAdd, Tri.sumTo]
  rw [if_neg (fun z => z.1 h)]
  omega
theorem cAdd_step (C : Nat → Nat) {e : Nat → Nat} {k : Nat} (h : e k ≠ 0) : upd (cAdd C e k) (e k) (cAdd C e k (e k) + 1) = cAdd C e (k + 1) := by
  funext x
  unfold upd
  by_cases hx : x = e k
  · rw [if_pos hx]; subst hx
    simp only [cAdd, Tri.sumTo]
    rw [if_pos ⟨h, trivial⟩]
    omega
  · rw [if_neg hx]
    simp only [cAdd, Tri.sumTo]
    rw [if_neg (fun z => hx z.2.symm)]
    omega
theorem cAdd_mono (C : Nat → Nat) (e : Nat → Nat) (x : Nat) : ∀ k d, cAdd C e k x ≤ cAdd C e (k + d) x
  | k, 0 => Nat.le_refl _
  | k, d + 1 => by
    have := cAdd_mono C e x k d
    have h2 : cAdd C e (k + d) x ≤ cAdd C e (k + d + 1) x := by simp only [cAdd, Tri.sumTo]; omega
    rw [show k + (d + 1) = k + d + 1 by omega]; omega
theorem cAdd_all (C : Nat → Nat) (e : Nat → Nat) (x : Nat) : cAdd C e 16 x = C x + Tri.kids e x := by
  unfold cAdd Tri.kids
  by_cases h0 : x = 0
  · rw [if_pos h0]
    have : ∀ k, Tri.sumTo (fun j => if e j ≠ 0 ∧ e j = x then 1 else 0) k = 0 := by
      intro k
      induction k with
      | zero => rfl
      | succ k ih => simp only [Tri.sumTo, ih]; rw [if_neg (fun z => z.1 (z.2.trans h0))]
    rw [this]
  · rw [if_neg h0]
    unfold Tri.mul
    have : (fun j => if e j ≠ 0 ∧ e j = x then 1 else 0) = (fun j => if e j = x then 1 else 0) := by
      funext j
      by_cases ej : e j = x
      · rw [if_pos ej, if_pos ⟨by omega, ej⟩]
      · rw [if_neg ej, if_neg (fun z => ej z.2)]
    rw [this]
theorem HTo.setRow (H : HTo w g m w') {b : Nat} (hb : w.heap.size ≤ b) (cs : Array Value) : HTo w g m (w'.setRow b cs) :=
  ⟨below_setRow H.b0 (Nat.zero_le _) _, fun k h1 h2 h3 => (setRow_other w' b k cs (by omega)).trans (H.oth k h1 h2 h3)⟩
theorem Hp.frame (H : Hp w h g m n u C Z X) (hs : w.heap.size ≤ w'.heap.size) (hk : ∀ k, k = h ∨ k = g ∨ k = m ∨ u.ownBlock = some k → w'.heap[k]? = w.heap[k]?) : Hp w' h g m n u C Z X := by
  obtain ⟨F, H⟩ := H
  exact ⟨F, (hk h (.inl rfl)).trans H.b, H.t.heap (hk g (.inr (.inl rfl))), H.p.heap (hk m (.inr (.inr (.inl rfl)))), H.s.same hs (fun k q => hk k (.inr (.inr (.inr q)))), H.sb, H.sm, H.hg, H.hm, H.gm, H.f, H.z, H.k, H.x⟩
theorem Hp.lts (H : Hp w h g m n u C Z X) : ∀ k, k = h ∨ k = g ∨ k = m ∨ u.ownBlock = some k → k < w.heap.size := by
  obtain ⟨F, H⟩ := H
  intro k hk
  rcases hk with rfl | rfl | rfl | hk
  · exact H.lt
  · exact H.t.lt
  · exact H.p.lt
  · exact H.blk k hk (by have := H.sm.n8; omega)
set_option maxRecDepth 100000 in
set_option maxHeartbeats 4000000 in
/-- Others refer to it too: a copy is its own. -/
theorem own_copy (H : Hp w h g m n u C Z X) (b : Nat) (h3 : 3 ≤ b) (hb : b < n) (hc : 2 ≤ C b) (e : Nat → Nat) (hx : X b = ntext e) (hk : Ents n C e) (t : Nat) (t3 : 3 ≤ t) (htn : t < n) (ht0 : C t = 0) (htl : ∀ j, j < t → C j ≠ 0) (hroom : ∀ x, cAdd (upd C t 1) e 16 x ≤ 255) :
    Calls Try.prog 57 #[.pointer (some ⟨h, 0, none⟩), .int .i64 (b : Int)] w
      (HpG w h g m n u (upd (cAdd (upd C t 1) e 16) b (cAdd (upd C t 1) e 16 b - 1)) (updZ Z t true) (updX X t (ntext e)) (.tuple #[.int .i64 (t : Int), .agg (ndL e).toArray, .int .i64 0])) := by
  have he := hk.le H.small.n200
  have hn := H.small.n200
  obtain ⟨gg, hgg⟩ : ∃ gg, w.heap.size = gg := ⟨_, rfl⟩
  obtain ⟨w1, hw1⟩ : ∃ w1, w1 = w.alloc (.cells nd0 91) := ⟨_, rfl⟩
  have b1 : Below gg w w1 := by rw [hw1]; exact (Below.refl _ _).alloc (by omega) _
  have n1 : w1.heap[gg]? = some (.cells nd0 91 (0, 0)) := by rw [hw1, ← hgg]; exact heap_alloc_new _ _
  have s1 : w1.heap.size = gg + 1 := by rw [hw1]; simp [hgg]
  have H1 : Hp w1 h g m n u C Z X := H.below (by rw [hgg]; exact b1)
  have cn : Calls Try.prog 42 #[.pointer (some ⟨h, 0, none⟩), .int .i64 (b : Int)] w1 (GivesN w1 e) := by
    obtain ⟨F, H1⟩ := H1
    exact node_good H1 b h3 hb (by omega) e hx hk
  have HB := Lib.hid b1
  have HN := Lib.hid n1
  have HS := Lib.hid s1
  have HH := Lib.hid H1
  have HG := Lib.hid (show g < gg from by rw [← hgg]; exact H.t.lt)
  have HM := Lib.hid (show m < gg from by rw [← hgg]; obtain ⟨F, H⟩ := H; exact H.p.lt)
  have HK := Lib.hid hk
  have HE := Lib.hid he
  have hgg2 := Lib.hid hgg
  have hb3 := Lib.hid h3
  have hbn := Lib.hid hb
  have hcc := Lib.hid hc
  have HA : Hid (∀ W, Hp W h g m n u C Z X → Calls Try.prog 62 #[.pointer (some ⟨h, 0, none⟩), .agg (ndL e).toArray] W (HpG W h g m n u (upd C t 1) (updZ Z t true) (updX X t (ntext e)) (.tuple #[.int .i64 (t : Int), .int .i64 0]))) :=
    Lib.hid fun W HW => add_good HW t htn ht0 htl t3 e he
  have HR := Lib.hid hroom
  have HT0 := Lib.hid ht0
  have HLT := Lib.hid H.lts
  clear hx hk he b1 n1 s1 H1 H h3 hb hc hn htl htn ht0 t3 hroom
  go_enter Try.func57, Try.ntmps57
  go_wp2_with (fail)
  rw [show w.alloc (.cells #[.int .u8 0, .int .u8 0, .int .u8 0, .int .u8 0, .int .u8 0, .int .u8 0, .int .u8 0, .int .u8 0, .int .u8 0, .int .u8 0, .int .u8 0, .int .u8 0, .int .u8 0, .int .u8 0, .int .u8 0, .int .u8 0] 91) = w1 from hw1.symm]
  clear hw1 hgg
  refine cn.mono ?_
  rintro x w2 ⟨rfl, b2⟩
  obtain ⟨g3, hg3⟩ : ∃ g3, w2.heap.size = g3 := ⟨_, rfl⟩
  have hst : (storeCells ⟨g3, 0, none⟩ (ndL e) 0).run Try.prog (w2.alloc (.cells #[.int .u8 0, .int .u8 0, .int .u8 0, .int .u8 0, .int .u8 0, .int .u8 0, .int .u8 0, .int .u8 0, .int .u8 0, .int .u8 0, .int .u8 0, .int .u8 0, .int .u8 0, .int .u8 0, .int .u8 0, .int .u8 0] 91)) = .ok () (w2.alloc (.cells (ndL e).toArray 91)) := by
    rw [← hg3]; exact run_storeCells_new (P := Try.prog) w2 91 nd0 (ndL e).toArray (nd_isa e) (by rw [nd_size]; rfl) (nd_one e)
  obtain ⟨w4, hw4⟩ : ∃ w4, w4 = w2.alloc (.cells (ndL e).toArray 91) := ⟨_, rfl⟩
  rw [← hw4] at hst
  have q4 : Below w1.heap.size w1 w4 := by rw [hw4]; exact b2.alloc (by have := b2.size; omega) _
  have hs4 : gg + 1 ≤ g3 ∧ g3 < w4.heap.size := by
    rw [hw4]; have := b2.size; rw [HS.out] at *; simp; omega
  have b4 := Lib.hid (HB.out.trans (q4.mono (by rw [HS.out]; omega)))
  have n4 : w4.heap[g3]? = some (.cells (ndL e).toArray 91 (0, 0)) := by rw [hw4, ← hg3]; exact heap_alloc_new _ _
  have m4 : w4.heap[gg]? = some (.cells nd0 91 (0, 0)) := by rw [q4.block gg (by rw [HS.out]; omega)]; exact HN.out
  have H4 : Hp w4 h g m n u C Z X := HH.out.below q4
  have cc := count_any g n C b w4 H4.t H4.small
  rw [cntV_nat hbn.out] at cc
  have c1 := H4.c1
  clear hw4 q4 b2 cn
  have tc1 : (((C b : Nat) : Int) == 1) = false := by rw [beq_eq_false_iff_ne]; have := hcc.out; omega
  have tc2 : ¬ ((C b : Nat) : Int) = 1 := by have := hcc.out; omega
  have tc3 : ¬ C b = 1 := by have := hcc.out; omega
  have hld := nd_cells n4
  have hs4' := Lib.hid hs4
  have HN4 := Lib.hid n4
  have HM4 := Lib.hid m4
  have HH4 := Lib.hid H4
  clear n4 m4 H4 hs4
  go_wp2_with (fail)
  clear hst hg3
  refine cc.mono ?_
  rintro x w' ⟨rfl, rfl⟩
  go_wp2_with (with_reducible refine wpList_load_run hld rfl _ rfl rfl ?_)
  refine (HA.out _ HH4.out).mono ?_
  rintro x w5 ⟨rfl, T5, H5⟩
  have n5 : w5.heap[g3]? = some (.cells (ndL e).toArray 91 (0, 0)) := (T5.oth g3 hs4'.out.2 (by have := hs4'.out; have := HG.out; omega) (by have := hs4'.out; have := HM.out; omega)).trans HN4.out
  have m5 : w5.heap[gg]? = some (.cells nd0 91 (0, 0)) := (T5.oth gg (by have := hs4'.out; omega) (by have := HG.out; omega) (by have := HM.out; omega)).trans HM4.out
  have hld5 := nd_cells n5
  have HN5 := Lib.hid n5
  have HM5 := Lib.hid m5
  have HT5 := Lib.hid T5
  have HH5 := Lib.hid H5
  have HX := Lib.hid (nd_idx e)
  have hs5 := Lib.hid (show gg + 1 ≤ g3 ∧ g3 < w5.heap.size from ⟨hs4'.out.1, by have := T5.size; have := hs4'.out; omega⟩)
  clear n5 m5 T5 H5 c1 cc hld tc1 tc2 tc3
  go_wp2_with (with_reducible refine wpList_load_run hld5 rfl _ rfl rfl ?_)
  clear hld5
  go_loopw [45, 11, 12] (fun s _ _ wr => ∃ k : Nat, k ≤ 16 ∧ s = .int .i64 (k : Int) ∧ HTo w5 g m wr ∧ Hp wr h g m n u (cAdd (upd C t 1) e k) (updZ Z t true) (updX X t (ntext e))) (fun s _ _ _ => 16 - (intOf s).toNat)
  case atStart => exact ⟨0, by omega, rfl, HTo.refl _ _ _, by rw [cAdd_zero]; exact HH5.out⟩
  case round =>
    obtain ⟨k, hk, rfl, q1, q2⟩ := hrel
    have Q1 := Lib.hid q1
    have Q2 := Lib.hid q2
    have c1 := q2.c1
    clear q1
    by_cases hlt : k < 16
    · have t1 : (k : Int) < 16 := by omega
      have hix := fun W => HX.out k hlt W
      by_cases h0 : e k = 0
      · rw [h0] at hix
        have hcs := Lib.hid (cAdd_skip (upd C t 1) h0)
        clear h0 q2
        generalize (ndL e).toArray = es at *
        go_wp2_with (fail)
        go_roundw
        case rel => exact ⟨k + 1, by omega, by go_num, Q1.out, by rw [hcs.out]; exact Q2.out⟩
        case measure => simp [intOf]; omega
      · obtain ⟨r1, r2, r3⟩ := HK.out k hlt h0
        have hne : e k ≠ t := fun z => by rw [z] at r3; have := HT0.out; omega
        have hpos : 0 < cAdd (upd C t 1) e k (e k) := by
          have := cAdd_mono (upd C t 1) e (e k) 0 k
          rw [cAdd_zero, Nat.zero_add] at this
          have h4 : upd C t 1 (e k) = C (e k) := by unfold upd; rw [if_neg hne]
          omega
        have hcs := cAdd_step (upd C t 1) h0
        have hup : cAdd (upd C t 1) e k (e k) < 255 := by
          have h5 := cAdd_mono (upd C t 1) e (e k) (k + 1) (16 - (k + 1))
          rw [show k + 1 + (16 - (k + 1)) = 16 by omega, ← hcs] at h5
          have h6 : upd (cAdd (upd C t 1) e k) (e k) (cAdd (upd C t 1) e k (e k) + 1) (e k) = cAdd (upd C t 1) e k (e k) + 1 := by unfold upd; rw [if_pos rfl]
          have := HR.out (e k)
          omega
        have ci := inc_good g n _ (e k) wr q2.t q2.small r1 r2 hpos hup
        have hsm := small_upd q2.small (i := e k) (v := cAdd (upd C t 1) e k (e k) + 1) r2 (by omega)
        rw [hcs] at ci hsm
        have hsm := Lib.hid hsm
        have hek := HE.out k hlt
        have e0 : ((e k : Nat) : Int) ≠ 0 := by omega
        have e0' : (((e k : Nat) : Int) == 0) = false := by rw [beq_eq_false_iff_ne]; omega
        clear hcs hpos hup q2 r2 r3 hne h0
        generalize e k = q at *
        generalize (ndL e).toArray = es at *
        go_wp2_with (fail)
        refine ci.mono ?_
        rintro x w6 ⟨rfl, T6⟩
        have HT6 := Lib.hid T6
        clear T6
        go_wp2_with (fail)
        go_roundw
        case rel => exact ⟨k + 1, by omega, by go_num, Q1.out.trans (HTo.tab HT6.out), Q2.out.tab HT6.out hsm.out⟩
        case measure => simp [intOf]; omega
    · obtain rfl : k = 16 := by omega
      have hbt : b ≠ t := fun z => by have := hcc.out; rw [z, HT0.out] at this; omega
      have hpos : 0 < cAdd (upd C t 1) e 16 b := by
        have := cAdd_mono (upd C t 1) e b 0 16
        rw [cAdd_zero, Nat.zero_add] at this
        have h4 : upd C t 1 b = C b := by unfold upd; rw [if_neg hbt]
        have := hcc.out
        omega
      have cd := dec_good g n _ b wr q2.t q2.small hb3.out hbn.out hpos
      have hsm := Lib.hid (small_upd q2.small (i := b) (v := cAdd (upd C t 1) e 16 b - 1) hbn.out (by have := q2.small.c b; omega))
      clear hpos hbt q2
      generalize hCC : upd (cAdd (upd C t 1) e 16) b (cAdd (upd C t 1) e 16 b - 1) = CC at *
      generalize cAdd (upd C t 1) e 16 b - 1 = lb at *
      clear hCC
      go_wp2_with (fail)
      refine cd.mono ?_
      rintro x w7 ⟨rfl, T7⟩
      have H7 := Q2.out.tab T7 hsm.out
      have K7 : HTo w5 g m w7 := Q1.out.trans (HTo.tab T7)
      have n7 : w7.drew.heap[g3]? = some (.cells (ndL e).toArray 91 (0, 0)) := (K7.oth g3 hs5.out.2 (by have := hs5.out; have := HG.out; omega) (by have := hs5.out; have := HM.out; omega)).trans HN5.out
      have m7 : w7.drew.heap[gg]? = some (.cells nd0 91 (0, 0)) := (K7.oth gg (by have := hs5.out; omega) (by have := HG.out; omega) (by have := HM.out; omega)).trans HM5.out
      have hld7 := nd_cells n7
      have hst7 := nd_storeAt (w := w7.drew) m7 rfl e
      have hld8 : (Instr.loadAt 91 (.pointer (some ⟨g3, 0, none⟩))).run Try.prog (w7.drew.setRow gg (ndL e).toArray) = .ok (.agg (ndL e).toArray) (w7.drew.setRow gg (ndL e).toArray) := nd_cells ((setRow_other w7.drew gg g3 _ (by have := hs5.out; omega)).trans n7)
      have HF := Lib.hid (setRow_nd (w := w7.drew) m7 e)
      have K8 : HTo w g m w7.drew := (((HTo.quiet (by rw [hgg2.out]; exact b4.out)).trans HT5.out).trans K7).trans (HTo.quiet ⟨rfl, rfl, rfl, Nat.le_refl _, fun _ _ => rfl⟩)
      have hfin : Hid (HTo w g m (w7.drew.setRow gg (ndL e).toArray)) := Lib.hid (K8.setRow (by rw [hgg2.out]; exact Nat.le_refl _) _)
      have hfin2 : Hid (Hp (w7.drew.setRow gg (ndL e).toArray) h g m n u CC (updZ Z t true) (updX X t (ntext e))) := Lib.hid (H7.frame (by simp) (fun k hk => by
        have := HLT.out k hk
        rw [hgg2.out] at this
        exact setRow_other w7.drew gg k _ (by omega)))
      clear n7 m7 H7 K7 K8 T7 cd c1
      go_upto_region 20 with (fail)
      refine wp_region_held_drew (S := fun W => (Instr.loadAt 91 (.pointer (some ⟨g3, 0, none⟩))).run Try.prog W = .ok (.agg (ndL e).toArray) W) (by kernel_rfl) hld7 (fun hHeld => ?_)
      refine wpAnyH_takeD (i := 0) (some 75) rfl (by kernel_rfl) (by kernel_rfl) (by kernel_rfl) rfl (fun _ _ _ h => h) (Or.inl ⟨by rfl, by intro w hSw; go_simp; try rfl⟩) (by assumption) ?_
      simp only [Act.put, List.setIfInBounds_toArray, List.set_cons_zero, List.set_cons_succ]
      refine wpAnyH_takeD (i := 1) (some 76) rfl (by kernel_rfl) (by kernel_rfl) (by kernel_rfl) rfl (fun _ _ _ h => h) (yieldsIf_load_run (by rfl) _ rfl rfl (fun w hS => hS)) (by assumption) ?_
      simp only [Act.put, List.setIfInBounds_toArray, List.set_cons_zero, List.set_cons_succ]
      refine wpAnyH_takeD (i := 2) (some 4) rfl (by kernel_rfl) (by kernel_rfl) (by kernel_rfl) rfl (fun _ _ _ h => h) (Or.inl ⟨by rfl, by intro w hSw; go_simp; try rfl⟩) (by assumption) ?_
      simp only [Act.put, List.setIfInBounds_toArray, List.set_cons_zero, List.set_cons_succ]
      refine wpAnyH_ready (rs := [3]) (by kernel_rfl) (by simp) ?_
      refine AllReadyH.cons rfl (fun K hK => ?_) AllReadyH.nil
      refine step_store_run (d := none) hst7 _ _ rfl rfl rfl rfl rfl ?_
      refine hK.out _ _ hld8 (fun hHeld => ?_)
      clear hK
      simp only [Act.put, List.setIfInBounds_toArray, List.set_cons_zero, List.set_cons_succ]
      refine wpAnyH_takeD (i := 4) (some 6) rfl (by kernel_rfl) (by kernel_rfl) (by kernel_rfl) rfl (fun _ _ _ h => h) (Or.inl ⟨by rfl, by intro w hSw; go_simp; try rfl⟩) (by assumption) ?_
      simp only [Act.put, List.setIfInBounds_toArray, List.set_cons_zero, List.set_cons_succ]
      refine wpAnyH_done (by kernel_rfl) ?_ _
      go_wp2_with (fail)
      refine bodyPost_ret (res_own HF.out rfl rfl rfl) rfl ⟨rfl, ?_⟩
      exact ⟨hfin.out, hfin2.out⟩
end
end Go.Proofs.Ytlbjfigdocbffaa
