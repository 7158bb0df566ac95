/- the document's member: Rot. -/
import Derived.Test.YtofhmdbilhdblaaMemQ5
import Derived.Test.YtofhmdbilhdblaaRackBase
namespace Go.Proofs.Ytofhmdbilhdblaa
open Go.RowKit
set_option linter.unusedVariables false
set_option linter.unusedSimpArgs false
set_option maxRecDepth 100000

/-- What lasts of a sector is another text. -/
theorem QBox.setT {w : World} {S : Nat → Prop} {m q cap : Nat} {fd : Bool} {L : List ByteArray} {V : Int → List ByteArray} {F : Nat → Value} (h : QBox w S m q cap fd L V F) (i : Nat) (hi : i < L.length) (t : ByteArray) (ht : t.size = 128) :
    QBox (w.setCell ⟨q, i * 2, none⟩ (.string t)) S m q cap fd (L.set i t) V F ∧ Stp S S w (w.setCell ⟨q, i * 2, none⟩ (.string t)) := by
  have k5 : ∀ k, k ≠ q → (w.setCell ⟨q, i * 2, none⟩ (.string t)).heap[k]? = w.heap[k]? := fun k hk => Below.heap_setCell _ _ _ _ hk
  have k4 : (w.setCell ⟨q, i * 2, none⟩ (.string t)).heap.size = w.heap.size := by simp
  have hA := h.l.setIn i (by rw [qL_len]; exact hi) 0 (by show 0 < 2; omega) (.string t) (t, F i) (by rw [qL_get _ _ _ _ hi]; rfl)
  rw [qL_set L F i hi, upq_self] at hA
  refine ⟨⟨?_, ?_, fun j hj => ?_, h.sm, h.sq, fun j hj => ?_, h.mq, fun k hk => by rw [k4]; exact h.lt k hk, fun z hz => ?_, by rw [List.length_set]; exact h.n1, by rw [List.length_set]; exact h.n2, fun s hs => ?_, h.zv⟩, ⟨⟨rfl, rfl, rfl, by rw [k4]; exact Nat.le_refl _, fun k hk => absurd hk (Nat.not_lt_zero _)⟩, fun k hk hn => k5 k (fun e => hn (e ▸ h.sq)), fun k hk => .inl hk⟩⟩
  · rw [k5 m h.mq, List.length_set]; exact h.b
  · rw [List.length_set]; exact hA
  · rw [List.length_set] at hj
    exact (h.r j hj).at_ fun k hk => k5 k (h.sr j hj k hk).2.2
  · rw [List.length_set] at hj
    exact h.sr j hj
  · rw [List.length_set]; exact h.keys z hz
  · rcases List.mem_or_eq_of_mem_set hs with x | x
    · exact h.zl s x
    · rw [x]; exact ht
set_option maxHeartbeats 2000000 in
theorem qrot_no {w : World} {S : Nat → Prop} {m q cap : Nat} {fd : Bool} {L : List ByteArray} {V : Int → List ByteArray} {F : Nat → Value} (h : QBox w S m q cap fd L V F) (n at_ bits : Int) (hr : rotB fd L V n at_ bits = false) :
    Calls Try.prog 22 #[.pointer (some ⟨m, 0, none⟩), .int .i64 n, .int .i64 at_, .int .i64 bits] w fun e w' => e = .returned (.bool false) ∧ w = w' := by
  have c0 := h.c0
  have c1 := h.c1
  have hll := h.len
  have hn2 := h.n2
  unfold rotB at hr
  simp only [Bool.not_eq_false', Bool.or_eq_true, Bool.not_eq_true', decide_eq_true_eq] at hr
  cases fd with
  | true =>
    clear h hr
    go_enter Try.func22, Try.ntmps22
    go_wp2_with (fail)
    go_ret
    exact ⟨rfl, rfl⟩
  | false =>
    by_cases t0 : n < 0
    · have d0 : decide (n < 0) = true := decide_eq_true t0
      clear h hr
      go_enter Try.func22, Try.ntmps22
      go_wp2_with (fail)
      go_ret
      exact ⟨rfl, rfl⟩
    · have d0 : decide (n < 0) = false := decide_eq_false t0
      by_cases t1 : (L.length : Int) ≤ n
      · have d1 : decide ((L.length : Int) ≤ n) = true := decide_eq_true t1
        clear h hr
        go_enter Try.func22, Try.ntmps22
        go_wp2_with (fail)
        go_ret
        exact ⟨rfl, rfl⟩
      · have d1 : decide ((L.length : Int) ≤ n) = false := decide_eq_false t1
        obtain ⟨i, rfl⟩ := Int.eq_ofNat_of_zero_le (Int.not_lt.1 t0)
        have hi : i < L.length := by omega
        have s1 := h.s1 hi
        have lv := h.lenV hi
        have hh : hasN L (i : Int) = true := by unfold hasN; rw [decide_eq_true (by omega), decide_eq_true (by omega)]; rfl
        rw [hh] at hr
        obtain ⟨q', hq⟩ : ∃ q, (V i).length = q := ⟨_, rfl⟩
        rw [hq] at lv hr
        have x1 : (i : Int) < (L.length : Int) := by omega
        clear h hq hh t0 t1
        simp only [Bool.false_eq_true, false_or, Bool.true_eq_false] at hr
        by_cases u0 : (0 : Int) < (q' : Int)
        · have e0 : decide ((0 : Int) < (q' : Int)) = true := decide_eq_true u0
          clear hr
          go_enter Try.func22, Try.ntmps22
          go_wp2_with (fail)
          go_ret
          exact ⟨rfl, rfl⟩
        · have e0 : decide ((0 : Int) < (q' : Int)) = false := decide_eq_false u0
          by_cases u1 : at_ < 0
          · have e1 : decide (at_ < 0) = true := decide_eq_true u1
            clear hr
            go_enter Try.func22, Try.ntmps22
            go_wp2_with (fail)
            go_ret
            exact ⟨rfl, rfl⟩
          · have e1 : decide (at_ < 0) = false := decide_eq_false u1
            by_cases u2 : (128 : Int) ≤ at_
            · have e2 : decide ((128 : Int) ≤ at_) = true := decide_eq_true u2
              clear hr
              go_enter Try.func22, Try.ntmps22
              go_wp2_with (fail)
              go_ret
              exact ⟨rfl, rfl⟩
            · have e2 : decide ((128 : Int) ≤ at_) = false := decide_eq_false u2
              by_cases u3 : bits < 1
              · have e3 : decide (bits < 1) = true := decide_eq_true u3
                clear hr
                go_enter Try.func22, Try.ntmps22
                go_wp2_with (fail)
                go_ret
                exact ⟨rfl, rfl⟩
              · have e3 : decide (bits < 1) = false := decide_eq_false u3
                by_cases u4 : (255 : Int) < bits
                · have e4 : decide ((255 : Int) < bits) = true := decide_eq_true u4
                  clear hr
                  go_enter Try.func22, Try.ntmps22
                  go_wp2_with (fail)
                  go_ret
                  exact ⟨rfl, rfl⟩
                · omega
set_option maxHeartbeats 2000000 in
theorem qrot_yes {w : World} {S : Nat → Prop} {m q cap : Nat} {fd : Bool} {L : List ByteArray} {V : Int → List ByteArray} {F : Nat → Value} (h : QBox w S m q cap fd L V F) (n j b : Nat) (hr : rotB fd L V n j b = true) (hnl : n < L.length) (hj : j < 128) (hb : b < 256) :
    Calls Try.prog 22 #[.pointer (some ⟨m, 0, none⟩), .int .i64 (n : Int), .int .i64 (j : Int), .int .i64 (b : Int)] w fun e w' => e = .returned (.bool true) ∧ QStep w S m false (L.set n (rotS L[n] j b)) V w' := by
  have hn2 := h.n2
  unfold rotB at hr
  simp only [Bool.not_eq_true', Bool.or_eq_false_iff, Bool.not_eq_false', decide_eq_false_iff_not] at hr
  obtain ⟨rfl, hh, hv, h1, h2, h3, h4⟩ := hr
  have c0 := h.c0
  have c1 := h.c1
  have hll := h.len
  have s0 := h.s0 hnl
  have s1 := h.s1 hnl
  have lv := h.lenV hnl
  have hv0 : (V n).length = 0 := by omega
  rw [hv0] at lv
  have hsz : L[n].size = 128 := h.zl _ (List.getElem_mem hnl)
  obtain ⟨t, ht⟩ : ∃ t, L[n] = t := ⟨_, rfl⟩
  have hrz := rotS_size L[n] j b hsz
  have hre : rotS L[n] j b = lineOf (t.data.toList.set j (UInt8.ofNat ((t.data.toList.getD j 0).toNat ^^^ b))) := by rw [ht]; rfl
  rw [ht] at s0 hsz
  obtain ⟨cap0, w1, C, hcv, hM, hb1, hsz1⟩ := MRow.make_run w t
  rw [hsz] at hcv
  have hl : t.data.toList.length = 128 := by rw [← hsz]; exact Array.length_toList
  obtain ⟨g0, hg0⟩ : ∃ g0, w.heap.size = g0 := ⟨_, rfl⟩
  rw [hg0] at hcv hM
  have cc := hM.cell (i := j) (by omega)
  have fc := hM.frozen (i := j) (by omega)
  obtain ⟨x, hx⟩ : ∃ x, t.data.toList.getD j 0 = x := ⟨_, rfl⟩
  rw [hx] at cc hre
  have hxb : bits .xor .u8 ((x.toNat : Nat) : Int) ((b : Nat) : Int) = ((x.toNat ^^^ b : Nat) : Int) := xor8m _ _ x.toNat_lt hb
  have hwb : IntKind.u8.wrap (b : Int) = (b : Int) := by rw [IntKind.wrap_u8]; omega
  have hxl := xor8_lt x.toNat_lt hb
  obtain ⟨y, hy⟩ : ∃ y, x.toNat ^^^ b = y := ⟨_, rfl⟩
  rw [hy] at hxb hre hxl
  have hM2 := hM.set (i := j) (by omega) (UInt8.ofNat y) (y : Int) (by rw [UInt8.toNat_ofNat', Nat.mod_eq_of_lt (by omega)])
  have hB1 := h.below hb1
  have hbs : Below w.heap.size w (w1.setCell ⟨g0, j, none⟩ (.int .u8 (y : Int))) := hb1.setCell (p := ⟨g0, j, none⟩) (by rw [hg0]; exact Nat.le_refl _) _
  have hB2 := h.below hbs
  have hst : ∀ W, W.heap = (w1.setCell ⟨g0, j, none⟩ (.int .u8 (y : Int))).heap → (convert 81 9 (.slice (some ⟨g0, 0, none⟩) 128 cap0)).run Try.prog W = .ok (.string (rotS L[n] j b)) W := fun W hW => by
    have hM3 : MRow W g0 C (t.data.toList.set j (UInt8.ofNat y)) := by
      obtain ⟨⟨cur, p1, p2⟩, p3⟩ := hM2
      exact ⟨⟨cur, by rw [hW]; exact p1, p2⟩, p3⟩
    rw [hre]
    exact hM3.str 128 cap0 (by rw [List.length_set]; exact hl.symm)
  have hst1 := hst (w1.setCell ⟨g0, j, none⟩ (.int .u8 (y : Int))) rfl
  have hst2 := hst (w1.setCell ⟨g0, j, none⟩ (.int .u8 (y : Int))).drew rfl
  have c0b := hB2.c0
  have s0b := hB2.s0 hnl
  have f0b := hB2.sf (n * 2)
  obtain ⟨h5, st5⟩ := hB2.drew.setT n hnl _ hrz
  have hfin : Hid (QStep w S m false (L.set n (rotS L[n] j b)) V ((w1.setCell ⟨g0, j, none⟩ (.int .u8 (y : Int))).drew.setCell ⟨q, n * 2, none⟩ (.string (rotS L[n] j b)))) :=
    Lib.hid ⟨S, q, cap, F, ((Stp.quiet (S := S) hbs).trans (Stp.quiet (Below.refl _ _).drew)).trans st5, h5⟩
  have y1 : (n : Int) < (L.length : Int) := by omega
  have y2 : (j : Int) < 128 := by omega
  have y0 : ¬ ((n : Int) < 0) := by omega
  have d0 : decide ((n : Int) < 0) = false := decide_eq_false (by omega)
  have d1 : decide ((L.length : Int) ≤ (n : Int)) = false := decide_eq_false (by omega)
  have d2 : decide ((0 : Int) < ((0 : Nat) : Int)) = false := rfl
  have d3 : decide ((j : Int) < 0) = false := decide_eq_false (by omega)
  have d4 : decide ((128 : Int) ≤ (j : Int)) = false := decide_eq_false (by omega)
  have d5 : decide ((b : Int) < 1) = false := decide_eq_false h3
  have d6 : decide ((255 : Int) < (b : Int)) = false := decide_eq_false h4
  rw [ht] at s0b
  have hgl := hg0
  clear h hB1 hB2 h5 st5 h1 h2 h3 h4 hh hv hv0 hsz hb hn2 hM hM2 hb1 hbs hst hre hrz hxl hy hx hl hsz1 hg0 ht
  generalize rotS L[n] j b = R at *
  go_enter Try.func22, Try.ntmps22
  go_wp2_with (fail)
  go_region
  all_goals
    go_wp2_with (fail)
    go_ret
    exact ⟨rfl, hfin.out⟩
end Go.Proofs.Ytofhmdbilhdblaa
