/- dir: the document's own Find, Change, Remove, Add. -/
import Derived.Test.YtfmgoamgcjipkaaDirWalk6
import Derived.Test.YtfmgoamgcjipkaaDirRef1
namespace Go.Proofs.Ytfmgoamgcjipkaa
open Go.RowKit
set_option linter.unusedVariables false
set_option linter.unusedSimpArgs false
open Dr

set_option maxRecDepth 100000 in
set_option maxHeartbeats 4000000 in
theorem rfind_any (v : Value) (l : List Vol) (s : ByteArray) (w : World) (hR : ReadsE volE w v l) (hl : l.length ≤ 140737488355328) : Calls Try.prog 25 #[v, .string s] w (fun e w' => e = .returned (.int .i64 (findI l s)) ∧ w = w') := by
  obtain ⟨a, cap, rfl, cl⟩ := items3 hR
  clear hR
  go_enter Try.func25, Try.ntmps25
  go_wp2
  go_loopw [5] (fun i wr => ∃ k : Nat, k ≤ l.length ∧ i = .int .i64 (k : Int) ∧ (∀ j, j < k → decide ((at_ l j).n = s) = false) ∧ wr = w) (fun i _ => l.length - (intOf i).toNat)
  case atStart => exact ⟨0, by omega, rfl, (fun j hj => absurd hj (Nat.not_lt_zero _)), rfl⟩
  case round =>
    obtain ⟨k, hk, rfl, hc, rfl⟩ := hrel
    rename World => w
    by_cases hlt : k < l.length
    · have x1 : (k : Int) < (l.length : Int) := by omega
      obtain ⟨cb, co, rfl, hcb, hcl⟩ := cl k hlt
      obtain ⟨d0, d1, d2⟩ := hcl w (Below.refl _ _)
      have he := toL_eq (at_ l k).n s
      cases hb : decide ((at_ l k).n = s) with
      | true =>
        have hz : Hid (findI l s = (k : Int)) := Lib.hid (by rw [findI_idx]; exact idxI_here hlt hb hc)
        rw [hb] at he
        clear hc hb
        go_wp2
        go_ret
        exact ⟨by rw [hz.out]; rfl, rfl⟩
      | false =>
        have hz : ∀ j, j < k + 1 → decide ((at_ l j).n = s) = false := fun j hj => by
          rcases Nat.lt_succ_iff_lt_or_eq.1 hj with h1 | rfl
          · exact hc j h1
          · exact hb
        rw [hb] at he
        have hzH := Lib.hid hz
        clear hc hb hz
        go_wp2
        go_roundw
        case rel => exact ⟨k + 1, by omega, by go_num, hzH.out, trivial⟩
        case measure => simp [intOf]; omega
    · have x1 : ¬ ((k : Int) < (l.length : Int)) := by omega
      obtain rfl : k = l.length := by omega
      have hz : Hid (findI l s = -1) := Lib.hid (by rw [findI_idx]; exact idxI_none hc)
      clear hc
      go_wp2_with (fail)
      go_ret
      exact ⟨by rw [hz.out]; rfl, rfl⟩
theorem ReadsE.copyRun {v : Value} {l : List Vol} {w : World} (hR : ReadsE volE w v l) (hl : l.length ≤ 900) : ∃ v' w', (Builtin.append_ #[22, 22] 22 #[.slice none 0 0, v]).run Try.prog w = .ok v' w' ∧ OwnE volE w' w.heap.size 24 v' l ∧ Below w.heap.size w w' := by
  obtain ⟨i, hi, hz0, hz1, hz2⟩ := vol_sizes
  obtain ⟨v', w', h1, h2, h3, _⟩ := OwnE.pushAll (P := Try.prog) (S := 22) Try.underlying22 hi hz0 hz1 hz2 rfl (OwnE.nil volE w w.heap.size 24) hR (Nat.le_refl _) (by simp; omega) (by simp; omega)
  exact ⟨v', w', h1, h2, h3⟩
set_option maxRecDepth 100000 in
set_option maxHeartbeats 4000000 in
theorem rchange_any (v : Value) (l : List Vol) (y : Vol) (w : World) (hR : ReadsE volE w v l) (hl : l.length ≤ 900) : Calls Try.prog 13 #[v, y.v] w (GivesVE w (chgL l y) (chgE l y)) := by
  have hbox : Below w.heap.size w (w.alloc (.cells #[.string y.n, .int .i64 y.s, .int .i64 y.r] 24)) := (Below.refl _ _).alloc (Nat.le_refl _) _
  have hva := VolAt.made w y 24
  have cf := rfind_any v l y.n _ (hR.below hbox) (by omega)
  obtain ⟨u, w2, hap, o2, b2⟩ := (hR.below hbox).copyRun hl
  clear hR
  obtain ⟨q, hq⟩ : ∃ q, findN l y.n = q := ⟨_, rfl⟩
  by_cases hlt : findN l y.n < l.length
  · have hz : Hid (chgL l y = l.set q y ∧ chgE l y = 0) := Lib.hid (by rw [chgL, chgE, if_pos hlt, if_pos hlt, hq]; exact ⟨rfl, rfl⟩)
    rw [show findI l y.n = (q : Int) by rw [findI_lt hlt, hq]] at cf
    rw [hq] at hlt
    clear hq
    unfold Vol.v
    have t2 : decide ((q : Int) < 0) = false := by rw [decide_eq_false_iff_not]; omega
    have t3 : (q : Int) < (l.length : Int) := by omega
    have B2 := below_c hbox b2
    have hva2 : VolAt w2 w.heap.size y := hva.below b2 hva.lt
    have hs0 : (w.alloc (.cells #[.string y.n, .int .i64 y.s, .int .i64 y.r] 24)).heap.size = w.heap.size + 1 := by simp
    obtain ⟨g, cap, rfl, hgB, hgl⟩ := o2.form (by omega)
    obtain ⟨_, _, cur, hg, hn, hm, hcs, hpre⟩ := o2.row
    rw [show volE.k = 3 from rfl] at hcs hpre
    have hb2s := b2.size
    have f0 := o2.frozen (q * 3)
    have f1 := o2.frozen (q * 3 + 1)
    have f2 := o2.frozen (q * 3 + 2)
    have k0 := o2.cell (E := volE) (i := q) hlt (j := 0) (by decide)
    have k1 := o2.cell (E := volE) (i := q) hlt (j := 1) (by decide)
    have k2 := o2.cell (E := volE) (i := q) hlt (j := 2) (by decide)
    rw [show volE.k = 3 from rfl] at k0 k1 k2
    rw [show (volE.f l[q])[0]? = some (Value.string l[q].n) from rfl, Nat.add_zero] at k0
    rw [show (volE.f l[q])[1]? = some (Value.int .i64 l[q].s) from rfl] at k1
    rw [show (volE.f l[q])[2]? = some (Value.int .i64 l[q].r) from rfl] at k2
    obtain ⟨d0, d1, d2, _⟩ := hva2
    have hown : OwnE volE (((w2.setCell ⟨g, q * 3, none⟩ (.string y.n)).setCell ⟨g, q * 3 + 1, none⟩ (.int .i64 y.s)).setCell ⟨g, q * 3 + 2, none⟩ (.int .i64 y.r)) w.heap.size 24 (.slice (some ⟨g, 0, none⟩) l.length cap) (l.set q y) := by
      have := set3 (B := w.heap.size) (o2.mono (by omega)) hlt y
      simpa using this
    have hownH := Lib.hid hown
    have BB : Below w.heap.size w (((w2.setCell ⟨g, q * 3, none⟩ (.string y.n)).setCell ⟨g, q * 3 + 1, none⟩ (.int .i64 y.s)).setCell ⟨g, q * 3 + 2, none⟩ (.int .i64 y.r)) :=
      ((B2.setCell (by show w.heap.size ≤ g; omega) _).setCell (by show w.heap.size ≤ g; omega) _).setCell (by show w.heap.size ≤ g; omega) _
    have hgG : ¬ g = w.heap.size := by omega
    have hGg : ¬ w.heap.size = g := by omega
    clear hown hg hpre hcs o2 hva
    go_enter Try.func13, Try.ntmps13
    go_wp2_with (first | (go_at_call 25; refine cf.mono ?_; rintro e w1 ⟨rfl, rfl⟩) | (at_builtin; refine wpList_append_run hap _ _ rfl rfl rfl rfl rfl ?_))
    go_ret2
    exact ⟨_, by rw [hz.out.2]; rfl, by rw [hz.out.1]; exact hownH.out, BB⟩
  · have hz : Hid (chgL l y = [] ∧ chgE l y = 183) := Lib.hid (by rw [chgL, chgE, if_neg hlt, if_neg hlt]; exact ⟨rfl, rfl⟩)
    rw [findI_bad hlt] at cf
    clear hap o2 b2
    unfold Vol.v
    go_enter Try.func13, Try.ntmps13
    go_wp2_with (go_at_call 25; refine cf.mono ?_; rintro e w1 ⟨rfl, rfl⟩)
    go_ret2
    rw [hz.out.1, hz.out.2]
    exact nil_v w _ _ hbox
theorem ReadsE.part {w : World} {b off n cap : Nat} {l : List Vol} (h : ReadsE volE w (.slice (some ⟨b, off, none⟩) n cap) l) (q : Nat) (hq : q ≤ l.length) :
    (∀ c, ReadsE volE w (.slice (some ⟨b, off, none⟩) q c) (l.take q)) ∧ (∀ A c, (if cap = q then some (⟨b, off, none⟩ : Addr) else some ⟨b, off + q * 3, none⟩) = some A → cap = q ∧ q = l.length ∧ A = ⟨b, off, none⟩ ∨ A = ⟨b, off + q * 3, none⟩ → ReadsE volE w (.slice (some A) (l.length - q) c) (l.drop q)) := by
  rcases h with ⟨h, _⟩ | ⟨b', off', cap', h1, hb, hc⟩
  · cases h
  · simp at h1
    obtain ⟨⟨rfl, rfl⟩, rfl, rfl⟩ := h1
    refine ⟨fun c => .inr ⟨b, off, c, by rw [List.length_take, Nat.min_eq_left hq], hb, fun j u hj => hc j u ?_⟩, fun A c hA hh => ?_⟩
    · rw [← volE.all_take, List.getElem?_take] at hj
      split at hj
      · exact hj
      · cases hj
    · rcases hh with ⟨_, e2, rfl⟩ | rfl
      · refine .inr ⟨b, off, c, by rw [List.length_drop], hb, fun j u hj => ?_⟩
        rw [e2, List.drop_length] at hj
        simp [Enc.all] at hj
      · refine .inr ⟨b, off + q * 3, c, by rw [List.length_drop], hb, fun j u hj => ?_⟩
        rw [Nat.add_assoc]
        refine hc (q * 3 + j) u ?_
        rw [← volE.all_drop, List.getElem?_drop] at hj
        exact hj
set_option maxRecDepth 100000 in
set_option maxHeartbeats 4000000 in
theorem rremove_any (v : Value) (l : List Vol) (s : ByteArray) (w : World) (hR : ReadsE volE w v l) (hl : l.length ≤ 900) (hcap : ∀ a n c, v = .slice a n c → n ≤ c ∧ c ≤ 9223372036854775807) : Calls Try.prog 15 #[v, .string s] w (GivesVE w (remL l s) (remE l s)) := by
  have cf := rfind_any v l s w hR (by omega)
  obtain ⟨q, hq⟩ : ∃ q, findN l s = q := ⟨_, rfl⟩
  by_cases hlt : findN l s < l.length
  · have hz : Hid (remL l s = l.eraseIdx q ∧ remE l s = 0) := Lib.hid (by rw [remL, remE, if_pos hlt, if_pos hlt, hq]; exact ⟨rfl, rfl⟩)
    rw [show findI l s = (q : Int) by rw [findI_lt hlt, hq]] at cf
    rw [hq] at hlt
    clear hq
    rcases hR with ⟨rfl, rfl⟩ | ⟨b, off, cap, rfl, hb, hc⟩
    · cases hlt
    obtain ⟨hcap1, hcap2⟩ := hcap _ _ _ rfl
    have hR : ReadsE volE w (.slice (some ⟨b, off, none⟩) l.length cap) l := .inr ⟨b, off, cap, rfl, hb, hc⟩
    obtain ⟨q1, hq1⟩ : ∃ q1, q + 1 = q1 := ⟨_, rfl⟩
    have p1 := (hR.part q (by omega)).1 cap
    obtain ⟨A, hA⟩ : ∃ A : Addr, (if cap = q1 then some (⟨b, off, none⟩ : Addr) else some ⟨b, off + q1 * 3, none⟩) = some A := by split <;> exact ⟨_, rfl⟩
    have p2 := (hR.part q1 (by omega)).2 A (cap - q1) hA (by
      split at hA
      · rename_i h; exact .inl ⟨h, by omega, (Option.some.inj hA).symm⟩
      · exact .inr (Option.some.inj hA).symm)
    obtain ⟨u, w1, hap1, o1, b1⟩ := p1.copyRun (by rw [List.length_take]; omega)
    obtain ⟨ii, hi, hz0, hz1, hz2⟩ := vol_sizes
    obtain ⟨u2, w2, hap2, o2, b2, _⟩ := OwnE.pushAll (P := Try.prog) (S := 22) Try.underlying22 hi hz0 hz1 hz2 rfl o1 (p2.below b1) b1.size (by simp; omega) (by simp; omega)
    have t2 : decide ((q : Int) < 0) = false := by rw [decide_eq_false_iff_not]; omega
    have y2 : IntKind.i64.wrap ((q : Int) + 1) = (q1 : Int) := by rw [IntWalk.i64_in _ (by omega)]; omega
    have y3 : (q : Int) ≤ (cap : Int) := by omega
    have y4 : (q1 : Int) ≤ (l.length : Int) := by omega
    have y5 : q ≤ cap := by omega
    have y6 : q1 ≤ l.length := by omega
    have hfin : OwnE volE w2 w.heap.size 24 u2 (l.eraseIdx q) := by rw [List.eraseIdx_eq_take_drop_succ, hq1]; exact o2
    have hfinH := Lib.hid hfin
    have BB := b1.trans b2
    clear hfin o1 o2 p1 p2 hR hc hq1
    go_enter Try.func15, Try.ntmps15
    go_wp2_with (first | (go_at_call 25; refine cf.mono ?_; rintro e w1 ⟨rfl, rfl⟩) | (at_builtin; refine wpList_append_run hap1 _ _ rfl rfl rfl (by simp [Act.eval, Act.put]) (by simp [Act.eval, Act.put]) ?_) | (at_builtin; refine wpList_append_run hap2 _ _ rfl rfl rfl (by simp [Act.eval, Act.put]) (by simp [Act.eval, Act.put, hA]) ?_))
    go_ret2
    exact ⟨_, by rw [hz.out.2]; rfl, by rw [hz.out.1]; exact hfinH.out, BB⟩
  · have hz : Hid (remL l s = [] ∧ remE l s = 183) := Lib.hid (by rw [remL, remE, if_neg hlt, if_neg hlt]; exact ⟨rfl, rfl⟩)
    rw [findI_bad hlt] at cf
    clear hR hcap
    go_enter Try.func15, Try.ntmps15
    go_wp2_with (go_at_call 25; refine cf.mono ?_; rintro e w1 ⟨rfl, rfl⟩)
    go_ret2
    rw [hz.out.1, hz.out.2]
    exact nil_v w _ _ (Below.refl _ _)
end Go.Proofs.Ytfmgoamgcjipkaa
