/- journal: JournalForged. -/
import Derived.Test.YtfadglcpapiklaaGreatDoorJrnHead
namespace Go.Proofs.YtfadglcpapiklaaGreatDoor
open Go.RowKit
open Rc
set_option linter.unusedVariables false
set_option linter.unusedSimpArgs false
set_option maxRecDepth 100000

theorem pk_nat (c : Int) (n : Nat) (hn : 1 ≤ n) : ∃ j : Nat, pk11 c (n : Int) = (j : Int) ∧ j < n := by
  have h := pk_rng11 c (n : Int) (by omega)
  obtain ⟨j, e⟩ := Int.eq_ofNat_of_zero_le h.1
  exact ⟨j, e, by omega⟩
theorem wr_step {n sec j a : Nat} {R : Rk} {s : ByteArray} (hU : Up n sec R) (hj : j < n) : wrR n R (j : Int) (a : Int) s = ⟨upd R.M j (wrM (R.M j) (a : Int) s), false, R.acts + 1, 0⟩ := by
  obtain ⟨a1, a2⟩ := akE_well hU.off hU.ar (x := (j : Int)) (n := n) (by omega)
  unfold wrR
  rw [if_pos a1, a2, Int.toNat_natCast]
theorem wsG_snoc (i j : Nat) (p : ByteArray) : ∀ (ps : List ByteArray) (a : Nat) (M : Mst), wsG i (ps ++ [p]) a j M = wrM (wsG i ps a j M) ((a + ps.length : Nat) : Int) (secS i j (a + ps.length) p)
  | [], a, M => rfl
  | q :: ps, a, M => by
    show wsG i (ps ++ [p]) (a + 1) j _ = wrM (wsG i ps (a + 1) j _) _ _
    rw [wsG_snoc i j p ps (a + 1), List.length_cons, show a + 1 + ps.length = a + (ps.length + 1) by omega]
/-- The rack, with a record laid by hand as far as its body's text 'i'. -/
def fgM (sec at_ sl : Nat) (H : ByteArray) (T : List ByteArray) (i : Nat) : Mst := wsG 9 (T.take i) (at_ + 1) sl (wsG 9 [H] at_ sl ((R00 sec).M sl))
def fgR (sec at_ sl : Nat) (H : ByteArray) (T : List ByteArray) (i : Nat) : Rk := ⟨upd (R00 sec).M sl (fgM sec at_ sl H T i), false, 1 + (i : Int), 0⟩
section
variable {n sec at_ sl i : Nat} {H : ByteArray} {T : List ByteArray}
theorem fgM_len : (fgM sec at_ sl H T i).L.length = sec ∧ (fgM sec at_ sl H T i).fd = false := by
  have h1 := wsG_len 9 (T.take i) (at_ + 1) sl (wsG 9 [H] at_ sl ((R00 sec).M sl))
  have h2 := wsG_len 9 [H] at_ sl ((R00 sec).M sl)
  refine ⟨?_, ?_⟩
  · unfold fgM; rw [h1.1, h2.1]; simp [R00]
  · unfold fgM; rw [h1.2, h2.2]; rfl
theorem fg_up (hn : 1 ≤ n ∧ n ≤ 7) : Up n sec (fgR sec at_ sl H T i) := ⟨rfl, rfl, hn.1, hn.2, fun y hy => by
  show (upd (R00 sec).M sl _ y).L.length = sec
  unfold upd
  split
  · exact fgM_len.1
  · simp [R00]⟩
theorem fg_zero (hn : 1 ≤ n ∧ n ≤ 7) (hs : sl < n) : wrR n (R00 sec) (sl : Int) (at_ : Int) (secS 9 sl at_ H) = fgR sec at_ sl H T 0 := by
  rw [wr_step (up_00 hn.1 hn.2) hs]; rfl
theorem fg_succ (hn : 1 ≤ n ∧ n ≤ 7) (hs : sl < n) (hi : i < T.length) : wrR n (fgR sec at_ sl H T i) (sl : Int) ((at_ + 1 + i : Nat) : Int) (secS 9 sl (at_ + 1 + i) T[i]) = fgR sec at_ sl H T (i + 1) := by
  rw [wr_step (fg_up hn) hs]
  show (⟨upd (upd (R00 sec).M sl _) sl (wrM (upd (R00 sec).M sl _ sl) _ _), false, 1 + (i : Int) + 1, 0⟩ : Rk) = _
  rw [upd_upd, upd_at]
  have e : fgM sec at_ sl H T (i + 1) = wrM (fgM sec at_ sl H T i) ((at_ + 1 + i : Nat) : Int) (secS 9 sl (at_ + 1 + i) T[i]) := by
    unfold fgM
    rw [List.take_succ_eq_append_getElem hi, wsG_snoc, List.length_take, Nat.min_eq_left (by omega)]
  unfold fgR
  rw [e, show 1 + (i : Int) + 1 = 1 + ((i + 1 : Nat) : Int) by omega]
end
theorem forged_bay {n sec k m sl c : Nat} {B q : Int} {l : List St} (hG : Gm n sec k m B) (hR : rightB (k : Int) (m : Int) B q l = true) (hsl : sl < n) (hc : c < 2) {j d : Nat} (hj : j < n) (hd : d < 2) :
    bayM n (fgR sec (bayN k c) sl (layS q l) (allT l) (allT l).length) 9 (k : Int) (m : Int) B (j : Int) d = if (j = sl ∧ d = c) ∧ c = (q % 2).toNat then some (q, l.map pr) else none := by
  have hrg := hG.rng
  have hq := (right_g hR).2
  have hU : Up n sec (fgR sec (bayN k c) sl (layS q l) (allT l) (allT l).length) := fg_up (by omega)
  have hb := body_len hG hR
  have hin := (bay_in hG c).1
  have hid := (bay_in hG d).1
  have hP := hG.plc hR (i := 9) (by omega) (by omega)
  have hz : ∀ x, x < sec → topM ((fgR sec (bayN k c) sl (layS q l) (allT l) (allT l).length).M sl) x = if bayN k c + 1 ≤ x ∧ x < bayN k c + 1 + (allT l).length then secS 9 sl x ((allT l).getD (x - (bayN k c + 1)) ⟨#[]⟩) else if x = bayN k c then secS 9 sl x (layS q l) else zero128 := fun x hx => by
    show topM (upd (R00 sec).M sl _ sl) x = _
    rw [upd_at]
    have h2 := wsG_len 9 [layS q l] (bayN k c) sl ((R00 sec).M sl)
    have hL : ((R00 sec).M sl).L.length = sec := by simp [R00]
    unfold fgM
    rw [List.take_length, top_ws (by omega) (by omega) (by omega) (allT l) _ _ (by rw [h2.2]; rfl) (by rw [h2.1, hL]; omega) (by rw [h2.1, hL]; omega) (fun p hp => Nat.le_of_eq (hP.bz p hp)), top_ws (by omega) (by omega) (by omega) [layS q l] _ _ rfl (by rw [hL, List.length_singleton]; omega) (by rw [hL]; omega) (fun p hp => by rw [List.mem_singleton.1 hp]; exact hP.hz)]
    congr 1
    by_cases hx2 : x = bayN k c
    · rw [if_pos hx2, if_pos (by rw [List.length_singleton]; omega), hx2, Nat.sub_self]; rfl
    · rw [if_neg hx2, if_neg (by rw [List.length_singleton]; omega)]
      exact top_zero sl x
  by_cases hjs : j = sl
  · subst hjs
    by_cases hdc : d = c
    · subst hdc
      by_cases hcq : d = (q % 2).toNat
      · rw [if_pos ⟨⟨rfl, rfl⟩, hcq⟩]
        refine cand_at hG hU hR (i := 9) (by omega) (by omega) hj ⟨?_, ?_, fun t ht => ?_⟩ hcq
        · show (upd (R00 sec).M j _ j).fd = false
          rw [upd_at]; exact fgM_len.2
        · rw [← hcq, hz _ (by omega), if_neg (by omega), if_pos rfl]
        · rw [← hcq, hz _ (by omega), if_pos (by omega), show bayN k d + 1 + t - (bayN k d + 1) = t by omega]
      · rw [if_neg (fun z => hcq z.2)]
        have hm : Made 9 j (bayN k d) (layS q l) := ⟨by omega, by omega, by omega, by omega, hP.hz⟩
        have hal : ((fgR sec (bayN k d) j (layS q l) (allT l) (allT l).length).M j).fd = false := by
          show (upd (R00 sec).M j _ j).fd = false
          rw [upd_at]; exact fgM_len.2
        have ht := top_holds12 (n := n) (c := bayN k d) rfl hj hal (by rw [hU.l j hj]; omega)
        rw [hz _ (by omega), if_neg (by omega), if_pos rfl] at ht
        obtain ⟨s1, s2⟩ := sr_padded (i := 9) (x := (j : Int)) (by omega) (by rw [Int.toNat_natCast]; exact hm) (by rw [Int.toNat_natCast]; exact ht)
        unfold bayM
        rw [bay_head hG d hd]
        have hlk := look_other (K := (k : Int)) (M := (m : Int)) (B := B) s1 (fun z => by
          have hL := hP.laid
          have hqq : hdQ (srS n (fgR sec (bayN k d) j (layS q l) (allT l) (allT l).length) ((9 : Nat) : Int) (j : Int) (bayN k d : Int)) = q := by rw [s2]; exact hL.q
          rw [hqq, head_bay hG (by omega)] at z
          have hzz := z.2
          have : bayN k (q % 2).toNat = bayN k d := by omega
          have ha := bay_apart (k := k) d (q % 2).toNat 0 hd (by omega) hcq (by omega)
          omega)
        rw [show lkM n (fgR sec (bayN k d) j (layS q l) (allT l) (allT l).length) 9 (k : Int) (m : Int) B (j : Int) (bayN k d : Int) = (⟨#[]⟩, [], true) from hlk]
        exact cand_nil _ _
    · rw [if_neg (fun z => hdc z.1.2)]
      have ha := bay_apart (k := k) d c 0 hd hc hdc (by omega)
      refine bay_zero hG hU hj hd (fun _ => ?_) _
      rw [hz _ (by omega), if_neg (by omega), if_neg (by omega)]
  · rw [if_neg (fun z => hjs z.1.1)]
    refine bay_zero hG hU hj hd (fun _ => ?_) _
    show topM (upd (R00 sec).M sl _ j) _ = _
    unfold upd
    rw [if_neg hjs]
    exact top_zero j _
theorem forged_best {n sec k m sl c : Nat} {B q : Int} {l : List St} (hG : Gm n sec k m B) (hR : rightB (k : Int) (m : Int) B q l = true) (hsl : sl < n) (hc : c < 2) :
    bestM n (fgR sec (bayN k c) sl (layS q l) (allT l) (allT l).length) 9 (k : Int) (m : Int) B (allL n) = if c = (q % 2).toNat then some (q, l.map pr) else none := by
  have hb : ∀ x ∈ allL n, ∀ d, d < 2 → ∃ j : Nat, x = (j : Int) ∧ bayM n (fgR sec (bayN k c) sl (layS q l) (allT l) (allT l).length) 9 (k : Int) (m : Int) B x d = if (j = sl ∧ d = c) ∧ c = (q % 2).toNat then some (q, l.map pr) else none := fun x hx d hd => by
    obtain ⟨h0, h3⟩ := allL_mem.1 hx
    obtain ⟨j, rfl⟩ := Int.eq_ofNat_of_zero_le h0
    exact ⟨j, rfl, forged_bay hG hR hsl hc (j := j) (by omega) hd⟩
  split
  · next h =>
    refine best_only (fun x hx d hd => ?_) ⟨(sl : Int), allL_mem.2 (by omega), c, hc, ?_⟩
    · obtain ⟨j, _, e⟩ := hb x hx d hd
      rw [e]
      split
      · exact .inr rfl
      · exact .inl rfl
    · rw [forged_bay hG hR hsl hc hsl hc, if_pos ⟨⟨rfl, rfl⟩, h⟩]
  · next h =>
    refine best_no fun x hx d hd => ?_
    obtain ⟨j, _, e⟩ := hb x hx d hd
    rw [e, if_neg (fun z => h z.2)]
theorem step_alloc_run {P : Program} {ops : Array Oper} {o : Oper} {a : Act} {w w' : World} {K : Act → World → Prop} {Q : Exit → Act → World → Prop} {E : Prop} {ty : TypeId} {v : Value} (hr : (Instr.alloc ty true (.tuple #[])).run P w = .ok v w') (hg : o.guard = none) (hop : o.op = .alloc ty) {d : Option Tmp} (hd : o.dst = d) (hK : K (a.put d v) w') :
    if Region.wanted o (yielded ops a.tmps) = true then Oper.wp P o a w K Q else E := by
  have hw : Region.wanted o (yielded ops a.tmps) = true := by simp [Region.wanted, hg]
  rw [if_pos hw]
  subst hd
  unfold Oper.wp execOp
  simp only [hop, Sem.run_bind, Sem.run_pure, hr, Result.andThen_ok]
  exact hK
theorem record_alloc (W : World) : (Instr.alloc 30 true (.tuple #[])).run Tryz.prog W = .ok (.pointer (some ⟨W.heap.size, 0, none⟩)) (W.alloc (.cells #[.int .i64 0, .slice none 0 0] 30)) := by kernel_rfl
theorem record_storeR (W : World) (b : Nat) (hb : W.heap[b]? = some (.cells #[.int .i64 0, .slice none 0 0] 30 (0, 0))) (N : Int) (a : Option Addr) (n c : Nat) : (Instr.storeAt 30 (.pointer (some ⟨b, 0, none⟩)) (.agg #[.int .i64 N, .slice a n c])).run Tryz.prog W = .ok () (W.setRow b #[.int .i64 N, .slice a n c]) := by
  simp only [Instr.storeAt, Instr.sureAddr, Sem.run_bind, Sem.run_pure, Result.andThen]
  exact run_storeVar_row W b 30 30 _ _ hb (by kernel_rfl) rfl (by simp [Value.oneCell'])
theorem row12_heap (W : World) {p k : Nat} (c : Array Value) (h : k ≠ p) : (W.setRow p c).heap[k]? = W.heap[k]? := by
  simp only [World.setRow]
  rw [Array.getElem?_modify, if_neg (fun e => h e.symm)]
theorem RBx.row {w : World} {b : Nat} {q : Int} {v : Value} {T : TypeId} (h : w.heap[b]? = some (.cells #[.int .i64 q, v] T (0, 0))) : RBx w b q v :=
  ⟨heap_cell h rfl, heap_cell h rfl, frozen_of_row _ _ _ _ _ h, frozen_of_row _ _ _ _ _ h, (Array.getElem?_eq_some_iff.1 h).1⟩
/-- What Last told, as the law has it in a box. -/
def TBx (W : World) (b : Nat) (q : Int) (a : Option Addr) (c : Nat) (l : List St) : Prop := RBx W b q (.slice a l.length c) ∧ SReads W (.slice a l.length c) l
theorem isrec_small {bst : Option RecM} {q q2 : Int} {l l2 : List St} (h : bst = none ∨ bst = some (q, l.map pr)) (hl : ∀ s ∈ l, s.d.length ≤ 140737488355328 ∧ ∀ t ∈ s.d, t.size ≤ 140737488355328) (hi : IsRec bst q2 l2) : ∀ s ∈ l2, s.d.length ≤ 140737488355328 ∧ ∀ t ∈ s.d, t.size ≤ 140737488355328 := by
  rcases h with rfl | rfl
  · obtain ⟨_, rfl⟩ : q2 = 0 ∧ l2 = [] := hi
    intro s hs; cases hs
  · exact (pr_facts hi.2 hl 0).2.2
/-- The box was made first, the record came behind it. -/
theorem fam_old {W : World} {B0 : Nat} {v : Value} {l : List St} (hf : SFam W B0 v l) {x : Nat} (hk : v.ownBlock = some x ∨ ∃ s ∈ l, s.v.ownBlock = some x) : B0 ≤ x ∧ x < W.heap.size := by
  rcases hk with hk | ⟨s, hs, hk⟩
  · exact hf.old _ (.inl rfl) x hk
  · exact hf.old _ (.inr ⟨s, hs, rfl⟩) x hk
theorem tbx_set {W : World} {b : Nat} {q : Int} {a : Option Addr} {c : Nat} {l : List St} {B0 : Nat} (hb : W.heap[b]? = some (.cells #[.int .i64 0, .slice none 0 0] 30 (0, 0))) (hB : ∀ x, ((Value.slice a l.length c).ownBlock = some x ∨ ∃ s ∈ l, s.v.ownBlock = some x) → x ≠ b) (hf : SFam W B0 (.slice a l.length c) l) (hl : ∀ s ∈ l, s.d.length ≤ 140737488355328 ∧ ∀ t ∈ s.d, t.size ≤ 140737488355328) : TBx (W.setRow b #[.int .i64 q, .slice a l.length c]) b q a c l :=
  ⟨RBx.row (setRow_heap W b _ _ _ _ hb), (hf.reads hl).kept (by simp [World.setRow]) fun k hk hlt => row12_heap W _ (hB k hk)⟩
theorem Lst.at {W : World} {S : Nat → Prop} {tb tq tc i : Nat} {T : List ByteArray} (h : Lst W S (.slice (some ⟨tb, tq, none⟩) T.length tc) (T.map Value.string)) (hi : i < T.length) : W.cell? ⟨tb, tq + i, none⟩ = some (.string T[i]) := by
  obtain ⟨a, cap, e, hit⟩ := Reads.items h.r
  obtain ⟨cb, co, e2, _, hc⟩ := hit i hi
  injection e with e3 e4 e5
  rw [← e3] at e2
  cases e2; exact hc
set_option maxHeartbeats 4000000 in
theorem jforged_walk (r : Raw) (vs vl : Value) (bay slot : Int) (w : World) (hok : RawOk r) (hst : Reads w vs (r.st.map (.int .i64))) (hle : Reads w vl (r.le.map (.int .i64))) (hb : -9223372036854775808 ≤ bay ∧ bay ≤ 9223372036854775807) (hs : -9223372036854775808 ≤ slot ∧ slot ≤ 9223372036854775807) :
    Calls Tryz.prog 7 #[r.v vs vl, .int .i64 bay, .int .i64 slot] w fun e w' => e = .returned (.bool true) ∧ Below w.heap.size w w' := by
  obtain ⟨p, hp⟩ : ∃ p, w.heap.size = p := ⟨_, rfl⟩
  have A0 := RwB.made w r vs vl 26
  have b0 : Below p w (w.alloc (.cells #[.int .i64 r.k, .int .i64 r.m, .int .i64 r.b, .int .i64 r.q, vs, vl] 26)) := (Below.refl _ _).alloc (by omega) _
  rw [hp] at A0
  have hst1 := hst.below (by rw [hp]; exact b0)
  have hle1 := hle.below (by rw [hp]; exact b0)
  clear hst hle
  unfold Raw.v
  go_enter Tryz.func7, Tryz.ntmps7
  go_wp2_with (fail)
  replace hp := Lib.hid hp
  generalize w.alloc (.cells #[.int .i64 r.k, .int .i64 r.m, .int .i64 r.b, .int .i64 r.q, vs, vl] 26) = w0 at *
  refine (awake12_any _).mono ?_
  rintro e w1 ⟨rfl, b1⟩
  have A1 := A0.below b1 A0.lt
  have B1 := b0.trans (b1.mono (by have := A0.lt; omega))
  have hst2 := hst1.below b1
  have hle2 := hle1.below b1
  obtain ⟨sa, sc, hvs⟩ := hst2.isSlice
  obtain ⟨la, lc, hvl⟩ := hle2.isSlice
  rw [List.length_map] at hvs hvl
  subst hvs
  subst hvl
  clear A0 b0 b1 hst1 hle1
  have e0 := A1.a0
  have e1 := A1.a1
  have e2 := A1.a2
  have e3 := A1.a3
  have e4 := A1.a4
  have e5 := A1.a5
  have cF := fit11_any r _ _ w1 hok hst2 hle2
  unfold Raw.v at cF
  go_wp2_with (fail)
  refine cF.mono ?_
  rintro e w2 ⟨v, l, rfl, F2, hl, b2⟩
  have hpw1 : p < w1.heap.size := A1.lt
  have B2 := B1.trans (b2.mono (by have := A1.lt; omega))
  have hpw2 : p < w2.heap.size := by have := b2.size; omega
  clear e0 e1 e2 e3 e4 e5 cF A1 B1 b2 hst2 hle2
  have hR := fit_ok11 r hl
  obtain ⟨va, vc, ev⟩ := F2.o.isSlice
  subst ev
  have L2 := F2.reads (right_reads hR)
  have O2 : Hid (∀ q, ((Value.slice va l.length vc).ownBlock = some q ∨ ∃ s ∈ l, s.v.ownBlock = some q) → q < w2.heap.size) := Lib.hid fun q hq => by
    rcases hq with hq | ⟨s, hs, hq⟩
    · exact (F2.old _ (.inl rfl) q hq).2
    · exact (F2.old _ (.inr ⟨s, hs, rfl⟩) q hq).2
  obtain ⟨n, sec, k, m, eK, eM, hG0⟩ := gm_fit r
  have hq1 : 1 ≤ fitQ r ∧ fitQ r ≤ 1099511627776 := (right_g hR).2
  generalize fB11 r.b = B at *
  generalize fitQ r = q at *
  generalize fK11 r.k = K at *
  generalize fM11 r.m = M at *
  subst eK
  subst eM
  have HG := Lib.hid hG0
  have HR := Lib.hid hR
  have hln : l.length ≤ 1000 := by
    have := (body_len hG0 hR).2.1
    have h2 := hG0.rng
    have h3 := (body_len hG0 hR).1
    have h4 : l.length * 1 ≤ l.length * k := Nat.mul_le_mul_left _ h2.1
    omega
  have hkm := hG0.rng
  clear hl hok F2 hG0 hR
  obtain ⟨g, hg⟩ : ∃ g, w2.heap.size = g := ⟨_, rfl⟩
  have s3 : (w2.alloc (.cells #[.int .i64 (k : Int), .int .i64 (m : Int), .int .i64 B] 23)).heap.size = g + 1 := by simp [hg]
  obtain ⟨hGb, hXb, hbb, hsz⟩ := two_boxes2 w2 #[.int .i64 (k : Int), .int .i64 (m : Int), .int .i64 B] #[.int .i64 q, .slice va l.length vc] 23 30
  have X4 := RBx.made (w2.alloc (.cells #[.int .i64 (k : Int), .int .i64 (m : Int), .int .i64 B] 23)) q (.slice va l.length vc) 30
  rw [s3] at X4
  rw [hg] at hGb hsz
  have L4 := L2.below hbb
  have B4 := Lib.hid (B2.trans (hbb.mono (by omega)))
  have O4 : Hid (w2.heap.size = g) := Lib.hid hg
  have hp4 : p < g := by omega
  clear L2 s3 hbb B2 hXb hpw2
  go_upto_region 3 with (fail)
  generalize (w2.alloc (.cells #[.int .i64 (k : Int), .int .i64 (m : Int), .int .i64 B] 23)).alloc (.cells #[.int .i64 q, .slice va l.length vc] 30) = w4 at *
  clear hg
  have cK := racks12_any HG.out w4
  have c0 : w4.cell? ⟨g, 0, none⟩ = some (.int .i64 (k : Int)) := heap_cell hGb rfl
  have c1 : w4.cell? ⟨g, 1, none⟩ = some (.int .i64 (m : Int)) := heap_cell hGb rfl
  have c2 : w4.cell? ⟨g, 2, none⟩ = some (.int .i64 B) := heap_cell hGb rfl
  go_wp2_with (fail)
  refine cK.mono ?_
  rintro e w5 ⟨S5, ka, wq, Sb, kb, rfl, a5, _, _, _⟩
  have X5 : RW w4 S5 w5 ka n g (g + 1) (k : Int) (m : Int) B q (.slice va l.length vc) l (R00 sec) := rw_new a5 hGb X4 L4 (fun y hy => by have := O2.out y hy; have := O4.out; omega)
  clear c0 c1 c2 cK hGb X4 L4 a5 O2 hsz
  obtain ⟨sl, eS, hsl⟩ := pk_nat slot (k + m) (by omega)
  have cP1 : Hid (∀ W, Calls Tryz.prog 12 #[.int .i64 slot, .int .i64 ((k : Int) + (m : Int))] W fun e w' => e = .returned (.int .i64 (sl : Int)) ∧ W = w') := Lib.hid fun W => by rw [← eS]; exact pick12_any slot _ W hs.1 hs.2 (by omega) (by omega)
  obtain ⟨c, eC, hc2⟩ := pk_nat bay 2 (by omega)
  have cP2 : Hid (∀ W, Calls Tryz.prog 12 #[.int .i64 bay, .int .i64 2] W fun e w' => e = .returned (.int .i64 (c : Int)) ∧ W = w') := Lib.hid fun W => by rw [← eC]; exact pick12_any bay 2 W hb.1 hb.2 (by omega) (by omega)
  have cHd : Hid (∀ W, Calls Tryz.prog 18 #[.agg #[.int .i64 (k : Int), .int .i64 (m : Int), .int .i64 B], .int .i64 (c : Int)] W fun e w' => e = .returned (.int .i64 (bayN k c : Int)) ∧ Below W.heap.size W w') := Lib.hid fun W => by
    have := rhead_any (k : Int) (m : Int) B (c : Int) W (by omega)
    rw [head_bay HG.out (by omega), show ((c : Int) % 2).toNat = c by omega] at this
    exact this
  clear eS eC
  obtain ⟨⟨c0, c1, c2⟩, c3, c4⟩ := X5.cells
  go_wp2_with (fail)
  refine (cP1.out _).mono ?_
  rintro e wz ⟨rfl, rfl⟩
  go_upto_region 7 with (fail)
  clear c0 c1 c2 c3 c4
  refine wp_region_held_drew (S := fun W => W.heap[g]? = some (.cells #[.int .i64 (k : Int), .int .i64 (m : Int), .int .i64 B] 23 (0, 0))) (by kernel_rfl) (X5.after (Below.drew_ w5)).jw.gb (fun hHeld => ?_)
  refine wpAnyH_takeD (i := 0) (v := .agg #[.int .i64 (k : Int), .int .i64 (m : Int), .int .i64 B]) (some 48) rfl (by kernel_rfl) (by kernel_rfl) (by kernel_rfl) rfl (fun _ _ _ h => h) (yieldsIf_load_run (by rfl) _ rfl rfl (fun _ hs => geo_load hs)) (by assumption) ?_
  simp only [Act.put, List.setIfInBounds_toArray, List.set_cons_zero, List.set_cons_succ]
  refine wpAnyH_takeD (i := 1) (some 49) rfl (by kernel_rfl) (by kernel_rfl) (by kernel_rfl) rfl (fun _ _ _ h => h) (Or.inl ⟨by rfl, by rintro w hs1; first | rfl | (go_simp; done) | (go_simp; rfl)⟩) (by assumption) ?_
  simp only [Act.put, List.setIfInBounds_toArray, List.set_cons_zero, List.set_cons_succ]
  refine wpAnyH_ready (rs := [2]) (by kernel_rfl) (by simp) ?_
  refine AllReadyH.cons rfl (fun K hK => ?_) AllReadyH.nil
  go_simp
  refine (cP2.out _).mono ?_
  rintro e wz ⟨rfl, rfl⟩
  refine hK.out _ _ (X5.after (Below.drew_ w5)).jw.gb (fun hHeld => ?_)
  clear hK
  try simp only [Act.put, List.setIfInBounds_toArray, List.set_cons_zero, List.set_cons_succ]
  refine wpAnyH_ready (rs := [3]) (by kernel_rfl) (by simp) ?_
  refine AllReadyH.cons rfl (fun K hK => ?_) AllReadyH.nil
  go_simp
  refine (cHd.out _).mono ?_
  rintro e w6 ⟨rfl, b6⟩
  have X6 := X5.after ((Below.drew_ w5).trans b6)
  refine hK.out _ _ (X5.after ((Below.drew_ w5).trans b6)).jw.gb (fun hHeld => ?_)
  clear hK
  try simp only [Act.put, List.setIfInBounds_toArray, List.set_cons_zero, List.set_cons_succ]
  refine wpAnyH_takeD (i := 4) (v := .int .i64 (bayN k c : Int)) (some 12) rfl (by kernel_rfl) (by kernel_rfl) (by kernel_rfl) rfl (fun _ _ _ h => h) (Or.inl ⟨by rfl, by rintro w hs1; first | rfl | (go_simp; done) | (go_simp; rfl)⟩) (by assumption) ?_
  simp only [Act.put, List.setIfInBounds_toArray, List.set_cons_zero, List.set_cons_succ]
  refine wpAnyH_done (by kernel_rfl) ?_ _

  have hnk := HG.out.n
  have hsn : sl < n := by omega
  have hbl := body_len HG.out HR.out
  have hpl := HG.out.plc HR.out (i := 9) (by omega) (by omega)
  have hbi := (bay_in HG.out c).1
  have HM : Hid ((layS q l).size ≤ 120 ∧ (∀ t ∈ allT l, t.size ≤ 120) ∧ bayN k c + 1 + (allT l).length ≤ sec ∧ sec ≤ 256 ∧ 1 ≤ (allT l).length ∧ (allT l).length ≤ 64 ∧ sl < n ∧ 1 ≤ n ∧ n ≤ 7) := Lib.hid ⟨hpl.hz, fun t ht => Nat.le_of_eq (hpl.bz t ht), by omega, by omega, by omega, by omega, hsn, by omega, by omega⟩
  have HBest := Lib.hid (forged_best HG.out HR.out hsn hc2)
  have cL := rlay_right X6.rl.r (by omega) HR.out
  obtain ⟨⟨c0, c1, c2⟩, c3, c4⟩ := X6.cells
  have H6 := Lib.hid X6
  clear hnk hsn hbl hpl hbi X5 X6 b6 cHd cP1 cP2
  generalize layS q l = H at *
  generalize allT l = T at *
  go_wp2_with (fail)
  refine cL.mono ?_
  rintro e w7 ⟨vb, rfl, ob, b7⟩
  have X7 := H6.out.after b7
  have L7 : Lst w7 S5 vb (T.map .string) := Lst.new ob (fun y hy => H6.out.jw.ra.lt y hy)
  obtain ⟨tb, tq, tc, hvb⟩ : ∃ tb tq tc, vb = .slice (some ⟨tb, tq, none⟩) T.length tc := by
    obtain ⟨a, cp, e, hit⟩ := Reads.items ob.reads
    obtain ⟨cb, co, e2, _⟩ := hit 0 (by have := HM.out; omega)
    exact ⟨cb, co, cp, by rw [e, e2]⟩
  subst hvb
  have cS : Hid (∀ W (a : Nat) (t : ByteArray), a ≤ 255 → t.size ≤ 120 → Calls Tryz.prog 27 #[.int .i64 9, .int .i64 (sl : Int), .int .i64 (a : Int), .string t] W fun e w' => e = .returned (.tuple #[.string (secS 9 sl a t), .int .i64 0]) ∧ Below W.heap.size W w') := Lib.hid fun W a t ha ht => by
    have hm := HM.out
    have := rseal_any 9 (sl : Int) (a : Int) t W (by omega)
    obtain ⟨e1, e2⟩ := seal_ok (i := 9) (l := sl) (a := a) (p := t) ⟨by omega, by omega, by omega, ha, ht⟩
    unfold Tells2 at this
    rw [show sealL 9 (sl : Int) (a : Int) t = _ from e2, show sealE 9 (sl : Int) (a : Int) t = 0 from e1] at this
    exact this
  have cS1 := cS.out w7 (bayN k c) H (by have := HM.out; omega) HM.out.1
  clear c0 c1 c2 c3 c4 cL H6 ob b7
  go_wp2_with (fail)
  refine cS1.mono ?_
  rintro e w8 ⟨rfl, b8⟩
  have X8 := X7.after b8
  have L8 := L7.below b8
  have cW := rt_write X8.jw.ra (sl : Int) (bayN k c : Int) (secS 9 sl (bayN k c) H) ((rok_00 n sec).le (by decide))
  have K9 := (rok_00 n sec).wr (sl : Int) (bayN k c : Int) (secS 9 sl (bayN k c) H)
  rw [fg_zero (T := T) ⟨by have := HM.out; omega, by have := HM.out; omega⟩ (by have := HM.out; omega)] at cW K9
  have H8 := Lib.hid (And.intro X8 L8)
  clear cS1 X7 L7 X8 L8 b8
  go_wp2_with (fail)
  refine cW.mono ?_
  rintro e w9 ⟨rfl, S9, s9, a9⟩
  have HI := Lib.hid (And.intro (H8.out.1.stp s9 a9) (And.intro (H8.out.2.stp s9) K9))
  clear cW H8 K9 s9 a9
  go_wp2_with (fail)
  go_loopw [18] (fun t wr => ∃ (i : Nat) (S' : Nat → Prop), i ≤ T.length ∧ t = .int .i64 (i : Int) ∧ RW w4 S' wr ka n g (g + 1) (k : Int) (m : Int) B q (.slice va l.length vc) l (fgR sec (bayN k c) sl H T i) ∧ Lst wr S' (.slice (some ⟨tb, tq, none⟩) T.length tc) (T.map .string) ∧ ROk n (fgR sec (bayN k c) sl H T i) (1 + i)) (fun t _ => T.length - (RowKit.intOf t).toNat)
  case atStart => exact ⟨0, S9, Nat.zero_le _, rfl, HI.out.1, HI.out.2.1, HI.out.2.2⟩
  case round =>
    clear HI
    obtain ⟨i, S', hi, rfl, X, L, K⟩ := hrel
    rename World => wr
    by_cases hlt : i < T.length
    · have y1 : (i : Int) < (T.length : Int) := by omega
      have hc1 := L.at hlt
      have hrg : bayN k c + 1 + i ≤ 255 := by have := HM.out; omega
      have cS2 := cS.out wr (bayN k c + 1 + i) T[i] hrg (HM.out.2.1 _ (List.getElem_mem hlt))
      have eZ : ((bayN k c + 1 + i : Nat) : Int) = (bayN k c : Int) + 1 + (i : Int) := by omega
      have HW : Hid (∀ W S2, RA w4 S2 W ka n (fgR sec (bayN k c) sl H T i) → Calls Tryz.prog 28 #[.pointer (some ⟨ka, 0, none⟩), .int .i64 (sl : Int), .int .i64 ((bayN k c : Int) + 1 + (i : Int)), .string (secS 9 sl (bayN k c + 1 + i) T[i])] W fun e w' => (∃ z, e = .returned (.int .i64 z)) ∧ ∃ S'', Stp S2 S'' W w' ∧ RA w4 S'' w' ka n (fgR sec (bayN k c) sl H T (i + 1))) := Lib.hid fun W S2 hA => by
        have := rt_write hA (sl : Int) ((bayN k c + 1 + i : Nat) : Int) (secS 9 sl (bayN k c + 1 + i) T[i]) (K.le (by have := HM.out; omega))
        rw [fg_succ ⟨by have := HM.out; omega, by have := HM.out; omega⟩ (by have := HM.out; omega) hlt, eZ] at this
        exact this.mono fun e w' ⟨h1, S'', h2, h3⟩ => ⟨⟨_, h1⟩, S'', h2, h3⟩
      have K2 : Hid (ROk n (fgR sec (bayN k c) sl H T (i + 1)) (1 + (i + 1))) := Lib.hid (by
        have := K.wr (sl : Int) ((bayN k c + 1 + i : Nat) : Int) (secS 9 sl (bayN k c + 1 + i) T[i])
        rw [fg_succ ⟨by have := HM.out; omega, by have := HM.out; omega⟩ (by have := HM.out; omega) hlt] at this
        exact this)
      rw [eZ] at cS2
      obtain ⟨t, ht⟩ : ∃ t, T[i] = t := ⟨_, rfl⟩
      rw [ht] at cS2 HW hc1
      have HX := Lib.hid (And.intro X L)
      clear X L K ht eZ
      go_wp2_with (fail)
      refine cS2.mono ?_
      rintro e w10 ⟨rfl, b10⟩
      have X10 := HX.out.1.after b10
      have HX2 := Lib.hid (And.intro X10 (HX.out.2.below b10))
      have cW := HW.out w10 S' X10.jw.ra
      clear cS2 X10 HX b10 hc1
      go_wp2_with (fail)
      refine cW.mono ?_
      rintro e w11 ⟨⟨z, rfl⟩, S11, s11, a11⟩
      have HO := Lib.hid (And.intro (HX2.out.1.stp s11 a11) (HX2.out.2.stp s11))
      clear cW HX2 s11 a11 HW
      go_wp2_with (fail)
      go_roundw
      case rel => exact ⟨i + 1, S11, by omega, by go_num, HO.out.1, HO.out.2, K2.out⟩
      case measure => simp [RowKit.intOf]; omega
    · obtain rfl : i = T.length := by omega
      have y1 : ¬ ((T.length : Int) < (T.length : Int)) := by omega
      have HX := Lib.hid (And.intro X (And.intro L K))
      clear X L K
      have hX := HX.out.1
      have HAll : Hid (∀ W, Calls Tryz.prog 14 #[.agg #[.int .i64 (k : Int), .int .i64 (m : Int), .int .i64 B]] W (GivesZ W (allL n))) := Lib.hid fun W => by
        have := all12_any k m B W (by omega) (by omega)
        rw [← HG.out.n] at this
        exact this
      have HLast : Hid (∀ W v, RA w4 S' W ka n (fgR sec (bayN k c) sl H T T.length) → LsN W S' v (allL n) → capOk v → Calls Tryz.prog 19 #[.pointer (some ⟨ka, 0, none⟩), .int .i64 9, .agg #[.int .i64 (k : Int), .int .i64 (m : Int), .int .i64 B], v] W (LastTo W (bestM n (fgR sec (bayN k c) sl H T T.length) 9 (k : Int) (m : Int) B (allL n), 0))) := Lib.hid fun W v hA hv hc =>
        best_law (i := 9) HG.out (fg_up (by have := HM.out; omega)) (by omega) (by omega) hA (HX.out.2.2.le (by have := HM.out; omega)) hv hc (by rw [allL_len]; have := HM.out; omega) (fun x hx => allL_mem.1 hx) allL_nodup
      have hbc : Hid (bestM n (fgR sec (bayN k c) sl H T T.length) 9 (k : Int) (m : Int) B (allL n) = none ∨ bestM n (fgR sec (bayN k c) sl H T T.length) 9 (k : Int) (m : Int) B (allL n) = some (q, l.map pr)) := Lib.hid (by
        rw [HBest.out]
        split
        · exact .inr rfl
        · exact .inl rfl)
      obtain ⟨bst, hbst⟩ : ∃ bst, bestM n (fgR sec (bayN k c) sl H T T.length) 9 (k : Int) (m : Int) B (allL n) = bst := ⟨_, rfl⟩
      rw [hbst] at HBest HLast hbc
      obtain ⟨R, hRR⟩ : ∃ R, fgR sec (bayN k c) sl H T T.length = R := ⟨_, rfl⟩
      rw [hRR] at hX HLast
      have hS' : Hid (∀ q, S' q → q < wr.heap.size) := Lib.hid fun q hq => hX.jw.ra.lt q hq
      have HS2 : Hid (∀ W, Below wr.heap.size wr W → W.heap[g]? = some (.cells #[.int .i64 (k : Int), .int .i64 (m : Int), .int .i64 B] 23 (0, 0))) := Lib.hid fun W hW => (hX.after hW).jw.gb
      have HXX := Lib.hid hX
      have HSm : Hid (∀ q2 (l2 : List St), IsRec bst q2 l2 → ∀ s ∈ l2, s.d.length ≤ 140737488355328 ∧ ∀ t ∈ s.d, t.size ≤ 140737488355328) := Lib.hid fun q2 l2 hi => isrec_small hbc.out (right_reads HR.out) hi
      have hd0 : Below wr.heap.size wr wr.drew := Below.drew_ wr
      clear hX hbst hRR HX HM cS hHeld
      go_upto_region 16 with (fail)
      go_cut [21, 22, 23] from 98 to 106 (fun s21 s22 s23 wx => ∃ (b : Nat) (q2 : Int) (x2 : Option Addr) (y2 : Nat) (l2 : List St), s21 = .pointer (some ⟨b, 0, none⟩) ∧ s22 = .bool bst.isSome ∧ s23 = .int .i64 0 ∧ RW w4 S' wx ka n g (g + 1) (k : Int) (m : Int) B q (.slice va l.length vc) l R ∧ TBx wx b q2 x2 y2 l2 ∧ IsRec bst q2 l2)
      case first =>
        refine wp_region_held_drew (S := fun W => W.heap[g]? = some (.cells #[.int .i64 (k : Int), .int .i64 (m : Int), .int .i64 B] 23 (0, 0))) (by kernel_rfl) (HS2.out _ hd0) (fun hHeld => ?_)
        refine wpAnyH_takeD (i := 0) (some 99) rfl (by kernel_rfl) (by kernel_rfl) (by kernel_rfl) rfl (fun _ _ _ h => h) (Or.inl ⟨by rfl, by rintro w hs1; first | rfl | (go_simp; done) | (go_simp; rfl)⟩) (by assumption) ?_
        simp only [Act.put, List.setIfInBounds_toArray, List.set_cons_zero, List.set_cons_succ]
        refine wpAnyH_takeD (i := 1) (v := .agg #[.int .i64 (k : Int), .int .i64 (m : Int), .int .i64 B]) (some 100) rfl (by kernel_rfl) (by kernel_rfl) (by kernel_rfl) rfl (fun _ _ _ h => h) (yieldsIf_load_run (by rfl) _ rfl rfl (fun _ hs => geo_load hs)) (by assumption) ?_
        simp only [Act.put, List.setIfInBounds_toArray, List.set_cons_zero, List.set_cons_succ]
        refine wpAnyH_takeD (i := 2) (v := .agg #[.int .i64 (k : Int), .int .i64 (m : Int), .int .i64 B]) (some 101) rfl (by kernel_rfl) (by kernel_rfl) (by kernel_rfl) rfl (fun _ _ _ h => h) (yieldsIf_load_run (by rfl) _ rfl rfl (fun _ hs => geo_load hs)) (by assumption) ?_
        simp only [Act.put, List.setIfInBounds_toArray, List.set_cons_zero, List.set_cons_succ]
        refine wpAnyH_ready (rs := [3, 9]) (by kernel_rfl) (by simp) ?_
        refine AllReadyH.cons rfl (fun K hK => ?_) (AllReadyH.cons rfl (fun K hK => ?_) AllReadyH.nil)
        · go_simp
          refine (HAll.out wr.drew).mono ?_
          rintro e wA ⟨vwA, rfl, owA, bwA⟩
          have dwA := hd0.trans (bwA.mono hd0.size)
          have qwA : LsN wA S' vwA (allL n) := LsN.own owA (fun q hq => by have := hS'.out q hq; have := hd0.size; omega)
          have cwA := owA.capOk
          refine hK.out _ _ (HS2.out _ dwA) (fun hHeld => ?_)
          clear hK
          try simp only [Act.put, List.setIfInBounds_toArray, List.set_cons_zero, List.set_cons_succ]
          refine wpAnyH_ready (rs := [4, 9]) (by kernel_rfl) (by simp) ?_
          refine AllReadyH.cons rfl (fun K hK => ?_) (AllReadyH.cons rfl (fun K hK => ?_) AllReadyH.nil)
          · go_simp
            refine (HLast.out wA vwA (HXX.out.after dwA).jw.ra qwA cwA).mono ?_
            rintro e wB ⟨q2, v2, l2, rfl, f2, i2, b2⟩
            obtain ⟨x2, y2, rfl⟩ := f2.isSlice
            have dwB := dwA.trans (b2.mono dwA.size)
            refine hK.out _ _ (HS2.out _ dwB) (fun hHeld => ?_)
            clear hK
            try simp only [Act.put, List.setIfInBounds_toArray, List.set_cons_zero, List.set_cons_succ]
            refine wpAnyH_takeD (i := 5) (v := .tuple #[.agg #[.int .i64 q2, .slice x2 l2.length y2], .bool bst.isSome, .int .i64 0]) (some 98) rfl (by kernel_rfl) (by kernel_rfl) (by kernel_rfl) rfl (fun _ _ _ h => h) (Or.inl ⟨by rfl, by rintro w hs1; first | rfl | (go_simp; done) | (go_simp; rfl)⟩) (by assumption) ?_
            simp only [Act.put, List.setIfInBounds_toArray, List.set_cons_zero, List.set_cons_succ]
            refine wpAnyH_takeD (i := 6) (v := .agg #[.int .i64 q2, .slice x2 l2.length y2]) (some 104) rfl (by kernel_rfl) (by kernel_rfl) (by kernel_rfl) rfl (fun _ _ _ h => h) (Or.inl ⟨by rfl, by rintro w hs1; first | rfl | (go_simp; done) | (go_simp; rfl)⟩) (by assumption) ?_
            simp only [Act.put, List.setIfInBounds_toArray, List.set_cons_zero, List.set_cons_succ]
            refine wpAnyH_takeD (i := 7) (v := .bool bst.isSome) (some 105) rfl (by kernel_rfl) (by kernel_rfl) (by kernel_rfl) rfl (fun _ _ _ h => h) (Or.inl ⟨by rfl, by rintro w hs1; first | rfl | (go_simp; done) | (go_simp; rfl)⟩) (by assumption) ?_
            simp only [Act.put, List.setIfInBounds_toArray, List.set_cons_zero, List.set_cons_succ]
            refine wpAnyH_takeD (i := 8) (v := .int .i64 0) (some 106) rfl (by kernel_rfl) (by kernel_rfl) (by kernel_rfl) rfl (fun _ _ _ h => h) (Or.inl ⟨by rfl, by rintro w hs1; first | rfl | (go_simp; done) | (go_simp; rfl)⟩) (by assumption) ?_
            simp only [Act.put, List.setIfInBounds_toArray, List.set_cons_zero, List.set_cons_succ]
            refine wpAnyH_ready (rs := [9]) (by kernel_rfl) (by simp) ?_
            refine AllReadyH.cons rfl (fun K hK => ?_) AllReadyH.nil
            refine step_alloc_run (d := some 21) (record_alloc wB) rfl rfl rfl ?_
            have bal := (Below.refl wB.heap.size wB).alloc (Nat.le_refl _) (.cells #[.int .i64 0, .slice none 0 0] 30)
            have hal := heap_alloc_new wB (.cells #[.int .i64 0, .slice none 0 0] 30)
            have dwC := dwB.trans (bal.mono dwB.size)
            have sal : (wB.alloc (.cells #[.int .i64 0, .slice none 0 0] 30)).heap.size = wB.heap.size + 1 := by simp
            obtain ⟨wC, hwC⟩ : ∃ W, W = wB.alloc (.cells #[.int .i64 0, .slice none 0 0] 30) := ⟨_, rfl⟩
            rw [← hwC] at bal hal dwC sal ⊢
            clear hwC
            obtain ⟨bx, hbx⟩ : ∃ b, wB.heap.size = b := ⟨_, rfl⟩
            rw [hbx] at hal sal ⊢
            have hwb : wr.heap.size ≤ bx := by have := dwB.size; omega
            refine hK.out _ _ (HS2.out _ dwC) (fun hHeld => ?_)
            clear hK
            try simp only [Act.put, List.setIfInBounds_toArray, List.set_cons_zero, List.set_cons_succ]
            have fC : SFam wC wA.heap.size (.slice x2 l2.length y2) l2 := f2.after bal
            refine wpAnyH_ready (rs := [10]) (by kernel_rfl) (by simp) ?_
            refine AllReadyH.cons rfl (fun K hK => ?_) AllReadyH.nil
            refine step_store_run (d := none) (record_storeR wC bx hal q2 x2 l2.length y2) _ _ rfl rfl rfl rfl rfl ?_
            have dz := below_setRow dwC hwb #[.int .i64 q2, .slice x2 l2.length y2]
            refine hK.out _ _ (HS2.out _ dz) (fun hHeld => ?_)
            clear hK
            try simp only [Act.put, List.setIfInBounds_toArray, List.set_cons_zero, List.set_cons_succ]
            refine wpAnyH_takeD (i := 11) (v := .bool bst.isSome) (some 22) rfl (by kernel_rfl) (by kernel_rfl) (by kernel_rfl) rfl (fun _ _ _ h => h) (Or.inl ⟨by rfl, by rintro w hs1; first | rfl | (go_simp; done) | (go_simp; rfl)⟩) (by assumption) ?_
            simp only [Act.put, List.setIfInBounds_toArray, List.set_cons_zero, List.set_cons_succ]
            refine wpAnyH_takeD (i := 12) (v := .int .i64 0) (some 23) rfl (by kernel_rfl) (by kernel_rfl) (by kernel_rfl) rfl (fun _ _ _ h => h) (Or.inl ⟨by rfl, by rintro w hs1; first | rfl | (go_simp; done) | (go_simp; rfl)⟩) (by assumption) ?_
            simp only [Act.put, List.setIfInBounds_toArray, List.set_cons_zero, List.set_cons_succ]
            refine wpAnyH_done (by kernel_rfl) ?_ _
            have hfin := tbx_set (q := q2) hal (fun x hx => by have := fam_old f2 hx; omega) fC (HSm.out q2 l2 i2)
            have hrw := HXX.out.after dz
            clear hHeld
            go_wp2_with (fail)
            go_meet
            exact ⟨bx, q2, x2, y2, l2, rfl, rfl, rfl, hrw, hfin, i2⟩
          · refine step_alloc_run (d := some 21) (record_alloc wA) rfl rfl rfl ?_
            have bal := (Below.refl wA.heap.size wA).alloc (Nat.le_refl _) (.cells #[.int .i64 0, .slice none 0 0] 30)
            have hal := heap_alloc_new wA (.cells #[.int .i64 0, .slice none 0 0] 30)
            have dwC := dwA.trans (bal.mono dwA.size)
            have sal : (wA.alloc (.cells #[.int .i64 0, .slice none 0 0] 30)).heap.size = wA.heap.size + 1 := by simp
            obtain ⟨wC, hwC⟩ : ∃ W, W = wA.alloc (.cells #[.int .i64 0, .slice none 0 0] 30) := ⟨_, rfl⟩
            rw [← hwC] at bal hal dwC sal ⊢
            clear hwC
            obtain ⟨bx, hbx⟩ : ∃ b, wA.heap.size = b := ⟨_, rfl⟩
            rw [hbx] at hal sal ⊢
            have hwb : wr.heap.size ≤ bx := by have := dwA.size; omega
            refine hK.out _ _ (HS2.out _ dwC) (fun hHeld => ?_)
            clear hK
            try simp only [Act.put, List.setIfInBounds_toArray, List.set_cons_zero, List.set_cons_succ]
            refine wpAnyH_ready (rs := [4]) (by kernel_rfl) (by simp) ?_
            refine AllReadyH.cons rfl (fun K hK => ?_) AllReadyH.nil
            have qwC := qwA.after bal
            go_simp
            refine (HLast.out wC vwA (HXX.out.after dwC).jw.ra qwC cwA).mono ?_
            rintro e wB ⟨q2, v2, l2, rfl, f2, i2, b2⟩
            obtain ⟨x2, y2, rfl⟩ := f2.isSlice
            have dwB := dwC.trans (b2.mono dwC.size)
            refine hK.out _ _ (HS2.out _ dwB) (fun hHeld => ?_)
            clear hK
            try simp only [Act.put, List.setIfInBounds_toArray, List.set_cons_zero, List.set_cons_succ]
            refine wpAnyH_takeD (i := 5) (v := .tuple #[.agg #[.int .i64 q2, .slice x2 l2.length y2], .bool bst.isSome, .int .i64 0]) (some 98) rfl (by kernel_rfl) (by kernel_rfl) (by kernel_rfl) rfl (fun _ _ _ h => h) (Or.inl ⟨by rfl, by rintro w hs1; first | rfl | (go_simp; done) | (go_simp; rfl)⟩) (by assumption) ?_
            simp only [Act.put, List.setIfInBounds_toArray, List.set_cons_zero, List.set_cons_succ]
            refine wpAnyH_takeD (i := 6) (v := .agg #[.int .i64 q2, .slice x2 l2.length y2]) (some 104) rfl (by kernel_rfl) (by kernel_rfl) (by kernel_rfl) rfl (fun _ _ _ h => h) (Or.inl ⟨by rfl, by rintro w hs1; first | rfl | (go_simp; done) | (go_simp; rfl)⟩) (by assumption) ?_
            simp only [Act.put, List.setIfInBounds_toArray, List.set_cons_zero, List.set_cons_succ]
            refine wpAnyH_takeD (i := 7) (v := .bool bst.isSome) (some 105) rfl (by kernel_rfl) (by kernel_rfl) (by kernel_rfl) rfl (fun _ _ _ h => h) (Or.inl ⟨by rfl, by rintro w hs1; first | rfl | (go_simp; done) | (go_simp; rfl)⟩) (by assumption) ?_
            simp only [Act.put, List.setIfInBounds_toArray, List.set_cons_zero, List.set_cons_succ]
            refine wpAnyH_takeD (i := 8) (v := .int .i64 0) (some 106) rfl (by kernel_rfl) (by kernel_rfl) (by kernel_rfl) rfl (fun _ _ _ h => h) (Or.inl ⟨by rfl, by rintro w hs1; first | rfl | (go_simp; done) | (go_simp; rfl)⟩) (by assumption) ?_
            simp only [Act.put, List.setIfInBounds_toArray, List.set_cons_zero, List.set_cons_succ]
            have halB := (b2.block bx (by omega)).trans hal
            refine wpAnyH_ready (rs := [10]) (by kernel_rfl) (by simp) ?_
            refine AllReadyH.cons rfl (fun K hK => ?_) AllReadyH.nil
            refine step_store_run (d := none) (record_storeR wB bx halB q2 x2 l2.length y2) _ _ rfl rfl rfl rfl rfl ?_
            have dz := below_setRow dwB hwb #[.int .i64 q2, .slice x2 l2.length y2]
            refine hK.out _ _ (HS2.out _ dz) (fun hHeld => ?_)
            clear hK
            try simp only [Act.put, List.setIfInBounds_toArray, List.set_cons_zero, List.set_cons_succ]
            refine wpAnyH_takeD (i := 11) (v := .bool bst.isSome) (some 22) rfl (by kernel_rfl) (by kernel_rfl) (by kernel_rfl) rfl (fun _ _ _ h => h) (Or.inl ⟨by rfl, by rintro w hs1; first | rfl | (go_simp; done) | (go_simp; rfl)⟩) (by assumption) ?_
            simp only [Act.put, List.setIfInBounds_toArray, List.set_cons_zero, List.set_cons_succ]
            refine wpAnyH_takeD (i := 12) (v := .int .i64 0) (some 23) rfl (by kernel_rfl) (by kernel_rfl) (by kernel_rfl) rfl (fun _ _ _ h => h) (Or.inl ⟨by rfl, by rintro w hs1; first | rfl | (go_simp; done) | (go_simp; rfl)⟩) (by assumption) ?_
            simp only [Act.put, List.setIfInBounds_toArray, List.set_cons_zero, List.set_cons_succ]
            refine wpAnyH_done (by kernel_rfl) ?_ _
            have hfin := tbx_set (q := q2) halB (fun x hx => by have := fam_old f2 hx; omega) f2 (HSm.out q2 l2 i2)
            have hrw := HXX.out.after dz
            clear hHeld
            go_wp2_with (fail)
            go_meet
            exact ⟨bx, q2, x2, y2, l2, rfl, rfl, rfl, hrw, hfin, i2⟩
        · refine step_alloc_run (d := some 21) (record_alloc wr.drew) rfl rfl rfl ?_
          have bal := (Below.refl wr.drew.heap.size wr.drew).alloc (Nat.le_refl _) (.cells #[.int .i64 0, .slice none 0 0] 30)
          have hal := heap_alloc_new wr.drew (.cells #[.int .i64 0, .slice none 0 0] 30)
          have dwC := hd0.trans (bal.mono hd0.size)
          have sal : (wr.drew.alloc (.cells #[.int .i64 0, .slice none 0 0] 30)).heap.size = wr.drew.heap.size + 1 := by simp
          obtain ⟨wC, hwC⟩ : ∃ W, W = wr.drew.alloc (.cells #[.int .i64 0, .slice none 0 0] 30) := ⟨_, rfl⟩
          rw [← hwC] at bal hal dwC sal ⊢
          clear hwC
          obtain ⟨bx, hbx⟩ : ∃ b, wr.drew.heap.size = b := ⟨_, rfl⟩
          rw [hbx] at hal sal ⊢
          have hwb : wr.heap.size ≤ bx := by have := hd0.size; omega
          refine hK.out _ _ (HS2.out _ dwC) (fun hHeld => ?_)
          clear hK
          try simp only [Act.put, List.setIfInBounds_toArray, List.set_cons_zero, List.set_cons_succ]
          refine wpAnyH_ready (rs := [3]) (by kernel_rfl) (by simp) ?_
          refine AllReadyH.cons rfl (fun K hK => ?_) AllReadyH.nil
          go_simp
          refine (HAll.out wC).mono ?_
          rintro e wA ⟨vwA, rfl, owA, bwA⟩
          have dwA := dwC.trans (bwA.mono dwC.size)
          have qwA : LsN wA S' vwA (allL n) := LsN.own owA (fun q hq => by have := hS'.out q hq; have := dwC.size; omega)
          have cwA := owA.capOk
          refine hK.out _ _ (HS2.out _ dwA) (fun hHeld => ?_)
          clear hK
          try simp only [Act.put, List.setIfInBounds_toArray, List.set_cons_zero, List.set_cons_succ]
          refine wpAnyH_ready (rs := [4]) (by kernel_rfl) (by simp) ?_
          refine AllReadyH.cons rfl (fun K hK => ?_) AllReadyH.nil
          go_simp
          refine (HLast.out wA vwA (HXX.out.after dwA).jw.ra qwA cwA).mono ?_
          rintro e wB ⟨q2, v2, l2, rfl, f2, i2, b2⟩
          obtain ⟨x2, y2, rfl⟩ := f2.isSlice
          have dwB := dwA.trans (b2.mono dwA.size)
          refine hK.out _ _ (HS2.out _ dwB) (fun hHeld => ?_)
          clear hK
          try simp only [Act.put, List.setIfInBounds_toArray, List.set_cons_zero, List.set_cons_succ]
          refine wpAnyH_takeD (i := 5) (v := .tuple #[.agg #[.int .i64 q2, .slice x2 l2.length y2], .bool bst.isSome, .int .i64 0]) (some 98) rfl (by kernel_rfl) (by kernel_rfl) (by kernel_rfl) rfl (fun _ _ _ h => h) (Or.inl ⟨by rfl, by rintro w hs1; first | rfl | (go_simp; done) | (go_simp; rfl)⟩) (by assumption) ?_
          simp only [Act.put, List.setIfInBounds_toArray, List.set_cons_zero, List.set_cons_succ]
          refine wpAnyH_takeD (i := 6) (v := .agg #[.int .i64 q2, .slice x2 l2.length y2]) (some 104) rfl (by kernel_rfl) (by kernel_rfl) (by kernel_rfl) rfl (fun _ _ _ h => h) (Or.inl ⟨by rfl, by rintro w hs1; first | rfl | (go_simp; done) | (go_simp; rfl)⟩) (by assumption) ?_
          simp only [Act.put, List.setIfInBounds_toArray, List.set_cons_zero, List.set_cons_succ]
          refine wpAnyH_takeD (i := 7) (v := .bool bst.isSome) (some 105) rfl (by kernel_rfl) (by kernel_rfl) (by kernel_rfl) rfl (fun _ _ _ h => h) (Or.inl ⟨by rfl, by rintro w hs1; first | rfl | (go_simp; done) | (go_simp; rfl)⟩) (by assumption) ?_
          simp only [Act.put, List.setIfInBounds_toArray, List.set_cons_zero, List.set_cons_succ]
          refine wpAnyH_takeD (i := 8) (v := .int .i64 0) (some 106) rfl (by kernel_rfl) (by kernel_rfl) (by kernel_rfl) rfl (fun _ _ _ h => h) (Or.inl ⟨by rfl, by rintro w hs1; first | rfl | (go_simp; done) | (go_simp; rfl)⟩) (by assumption) ?_
          simp only [Act.put, List.setIfInBounds_toArray, List.set_cons_zero, List.set_cons_succ]
          have halB := (b2.block bx (by have := bwA.size; omega)).trans ((bwA.block bx (by omega)).trans hal)
          refine wpAnyH_ready (rs := [10]) (by kernel_rfl) (by simp) ?_
          refine AllReadyH.cons rfl (fun K hK => ?_) AllReadyH.nil
          refine step_store_run (d := none) (record_storeR wB bx halB q2 x2 l2.length y2) _ _ rfl rfl rfl rfl rfl ?_
          have dz := below_setRow dwB hwb #[.int .i64 q2, .slice x2 l2.length y2]
          refine hK.out _ _ (HS2.out _ dz) (fun hHeld => ?_)
          clear hK
          try simp only [Act.put, List.setIfInBounds_toArray, List.set_cons_zero, List.set_cons_succ]
          refine wpAnyH_takeD (i := 11) (v := .bool bst.isSome) (some 22) rfl (by kernel_rfl) (by kernel_rfl) (by kernel_rfl) rfl (fun _ _ _ h => h) (Or.inl ⟨by rfl, by rintro w hs1; first | rfl | (go_simp; done) | (go_simp; rfl)⟩) (by assumption) ?_
          simp only [Act.put, List.setIfInBounds_toArray, List.set_cons_zero, List.set_cons_succ]
          refine wpAnyH_takeD (i := 12) (v := .int .i64 0) (some 23) rfl (by kernel_rfl) (by kernel_rfl) (by kernel_rfl) rfl (fun _ _ _ h => h) (Or.inl ⟨by rfl, by rintro w hs1; first | rfl | (go_simp; done) | (go_simp; rfl)⟩) (by assumption) ?_
          simp only [Act.put, List.setIfInBounds_toArray, List.set_cons_zero, List.set_cons_succ]
          refine wpAnyH_done (by kernel_rfl) ?_ _
          have hfin := tbx_set (q := q2) halB (fun x hx => by have := fam_old f2 hx; have := bwA.size; omega) f2 (HSm.out q2 l2 i2)
          have hrw := HXX.out.after dz
          clear hHeld
          go_wp2_with (fail)
          go_meet
          exact ⟨bx, q2, x2, y2, l2, rfl, rfl, rfl, hrw, hfin, i2⟩
      case rest =>
        obtain ⟨b, q2, x2, y2, l2, rfl, rfl, rfl, hrw, htb, hir⟩ := hcut
        rename World => wx
        have hcase : (c = (q % 2).toNat ∧ bst = some (q, l.map pr)) ∨ (c ≠ (q % 2).toNat ∧ bst = none) := by
          rw [HBest.out]
          by_cases h : c = (q % 2).toNat
          · left; exact ⟨h, if_pos h⟩
          · right; exact ⟨h, if_neg h⟩
        have cHq : ∀ W, Calls Tryz.prog 18 #[.agg #[.int .i64 (k : Int), .int .i64 (m : Int), .int .i64 B], .int .i64 q] W fun e w' => e = .returned (.int .i64 (bayN k (q % 2).toNat : Int)) ∧ Below W.heap.size W w' := fun W => by
          have := rhead_any (k : Int) (m : Int) B q W (by omega)
          rw [head_bay HG.out (by omega)] at this
          exact this
        have hfin : Hid (∀ W, Below wx.heap.size wx W → Below w.heap.size w W) := Lib.hid fun W hW => by
          have h4 := B4.out
          have h4s := h4.size
          have h5 := hp.out
          rw [h5]
          exact h4.trans (((hrw.after hW).jw.ra.b).mono (by omega))
        obtain ⟨⟨c0, c1, c2⟩, c3, c4⟩ := hrw.cells
        clear HBest HAll HLast hbc HS2 HXX HSm hd0 hS'
        rcases hcase with ⟨hcq, hb2⟩ | ⟨hcq, hb2⟩
        · subst hb2
          obtain ⟨e2, hp2⟩ : q2 = q ∧ l2.map pr = l.map pr := hir
          subst e2
          have hF := pr_facts hp2 (right_reads HR.out) q2
          rw [← hcq] at cHq
          have HC : Hid (∀ W, Below wx.heap.size wx W → W.cell? ⟨b, 0, none⟩ = some (.int .i64 q2) ∧ W.cell? ⟨b, 1, none⟩ = some (.slice x2 l2.length y2) ∧ W.cell? ⟨g + 1, 0, none⟩ = some (.int .i64 q2) ∧ W.cell? ⟨g + 1, 1, none⟩ = some (.slice va l.length vc) ∧ Calls Tryz.prog 20 #[.agg #[.int .i64 q2, .slice x2 l2.length y2], .agg #[.int .i64 q2, .slice va l.length vc]] W (Tells W (.bool true))) := Lib.hid fun W hW => by
            have h1 := htb.1.heap (hW.block b htb.1.lt) hW.size
            have h2 := (hrw.after hW).rb
            have h3 := rsame11_any q2 q2 (.slice x2 l2.length y2) (.slice va l.length vc) l2 l W (htb.2.below hW) (hrw.after hW).rl.r (by rw [hF.2.1]; omega)
            rw [hF.1] at h3
            exact ⟨h1.c0, h1.c1, h2.c0, h2.c1, h3⟩
          clear hrw htb hF hp2 hcq
          simp only [Option.isSome_some]
          go_wp2_with (fail)
          refine (cHq _).mono ?_
          rintro e wy ⟨rfl, by1⟩
          obtain ⟨t0, t1, t2, t3, cSm⟩ := HC.out wy by1
          clear cHq c0 c1 c2 c3 c4
          go_wp2_with (fail)
          refine cSm.mono ?_
          rintro e wz ⟨rfl, bz⟩
          clear t0 t1 t2 t3 cSm
          go_wp2_with (fail)
          go_ret
          exact ⟨rfl, hfin.out _ (by1.trans (bz.mono by1.size))⟩
        · subst hb2
          obtain ⟨z, hz⟩ : ∃ z : Int, (bayN k (q % 2).toNat : Int) = z := ⟨_, rfl⟩
          have hzn : ¬ (z = (bayN k c : Int)) := fun h => by
            have ha := bay_apart (k := k) c (q % 2).toNat 0 hc2 (by omega) hcq (by omega)
            omega
          rw [hz] at cHq
          clear hz hcq
          simp only [Option.isSome_none]
          clear hrw htb hir
          go_wp2_with (fail)
          refine (cHq _).mono ?_
          rintro e wy ⟨rfl, by1⟩
          clear cHq c0 c1 c2 c3 c4
          go_wp2_with (fail)
          go_ret
          have hzb : (z == (bayN k c : Int)) = false := by simpa using hzn
          refine ⟨?_, hfin.out _ by1⟩
          show Ending.returned (Value.bool (!(z == (bayN k c : Int)))) = _
          rw [hzb]; rfl
end Go.Proofs.YtfadglcpapiklaaGreatDoor
