/- the document's member: Pending, Image, Blank, Fail. -/
import Derived.Test.YtofhmdbilhdblaaMemQ3
namespace Go.Proofs.Ytofhmdbilhdblaa
open Go.RowKit
set_option linter.unusedVariables false
set_option linter.unusedSimpArgs false
set_option maxRecDepth 100000

theorem qint_is : ∃ i, Try.prog.info? 3 = some i ∧ i.zero = some (.int .i64 0) ∧ i.size = 1 ∧ i.bytes = 8 := (cont_gen (P := Try.prog) (t := 3) (c := .int .i64 0) (n := 1) (k := 8) (by kernel_rfl)).2
theorem pend_yes (k : Nat) (V : Int → List ByteArray) (h : V k ≠ []) : pend (k + 1) V = pend k V ++ [(k : Int)] := by
  unfold pend
  rw [List.range_succ, List.filter_append, List.map_append]
  congr 1
  have : zOf V (k : Int) = true := by unfold zOf; cases e : V k; exact absurd e h; rfl
  simp [this]
theorem pend_not (k : Nat) (V : Int → List ByteArray) (h : V k = []) : pend (k + 1) V = pend k V := by
  unfold pend
  rw [List.range_succ, List.filter_append, List.map_append]
  have : zOf V (k : Int) = false := by unfold zOf; rw [h]; rfl
  simp [this]
set_option maxHeartbeats 1000000 in
theorem qpend_any {w : World} {S : Nat → Prop} {m q cap : Nat} {fd : Bool} {L : List ByteArray} {V : Int → List ByteArray} {F : Nat → Value} (h : QBox w S m q cap fd L V F) :
    Calls Try.prog 33 #[.pointer (some ⟨m, 0, none⟩)] w (GivesP w (pend L.length V)) := by
  obtain ⟨si, s1, s2, s3, s4⟩ := qint_is
  have hn2 := h.n2
  have hll := h.len
  go_enter Try.func33, Try.ntmps33
  go_wp2_with (fail)
  go_loopw [4, 3] (fun t vx wr => ∃ (k : Nat) (u : Value), u = vx ∧ k ≤ L.length ∧ t = .int .i64 (k : Int) ∧ Below w.heap.size w wr ∧ Own wr w.heap.size 3 u ((pend k V).map (.int .i64))) (fun t _ _ => L.length - (intOf t).toNat)
  case atStart => exact ⟨0, _, rfl, by omega, rfl, Below.refl _ _, Own.nil _ _ _⟩
  case round =>
    obtain ⟨k, u, rfl, hk, rfl, hb, hO⟩ := hrel
    have hB := h.below hb
    have c0 := hB.c0
    by_cases hlt : k < L.length
    · have k1 : (k : Int) < (L.length : Int) := by omega
      have s1' := hB.s1 hlt
      have lv := hB.lenV hlt
      by_cases e0 : V k = []
      · rw [e0] at lv
        have t1 : ¬ (0 < ((([] : List ByteArray).length : Nat) : Int)) := by simp
        rw [← pend_not k V e0] at hO
        have hrel2 := Lib.hid (And.intro hb hO)
        clear hB hb hO
        go_wp2_with (fail)
        go_roundw
        case rel => exact ⟨k + 1, _, rfl, by omega, by go_num, hrel2.out⟩
        case measure => simp [intOf]; omega
      · have hpos : 0 < (V k).length := List.length_pos_iff.2 e0
        have t1 : (0 : Int) < ((V (k : Int)).length : Int) := by omega
        have hpl := pend_le k V
        obtain ⟨v', w2, hap, hO2, hb2⟩ := Own.push (P := Try.prog) (T := 31) Try.underlying31 s1 s2 s3 s4 rfl hO (.int .i64 (k : Int)) rfl hb.size (by rw [List.length_map]; omega) (by rw [List.length_map]; omega)
        have e1 : (pend k V).map (Value.int .i64) ++ [.int .i64 (k : Int)] = (pend (k + 1) V).map (.int .i64) := by rw [pend_yes k V e0, List.map_append]; rfl
        rw [e1] at hO2
        have hrel2 := Lib.hid (And.intro (hb.trans hb2) hO2)
        clear hB hb hO hO2 hb2 e1 hpl
        go_wp2_with (at_builtin; refine wpList_append_run hap _ _ rfl rfl rfl rfl rfl ?_)
        go_roundw
        case rel => exact ⟨k + 1, _, rfl, by omega, by go_num, hrel2.out⟩
        case measure => simp [intOf]; omega
    · obtain rfl : k = L.length := by omega
      go_wp2_with (fail)
      go_ret
      exact ⟨_, rfl, hb, hO⟩
/-- What lasts, told. -/
def GivesQ (w : World) (L : List ByteArray) (e : Ending) (w' : World) : Prop := ∃ v, e = .returned v ∧ Below w.heap.size w w' ∧ Own w' w.heap.size 9 v (L.map .string)
set_option maxHeartbeats 1000000 in
theorem qimage_any {w : World} {S : Nat → Prop} {m q cap : Nat} {L : List ByteArray} {V : Int → List ByteArray} {F : Nat → Value} (h : QBox w S m q cap false L V F) :
    Calls Try.prog 36 #[.pointer (some ⟨m, 0, none⟩)] w (GivesQ w L) := by
  obtain ⟨si, s1, s2, s3, s4⟩ := qstr_is
  have hn2 := h.n2
  have hll := h.len
  go_enter Try.func36, Try.ntmps36
  go_wp2_with (fail)
  go_loopw [4, 3] (fun t vx wr => ∃ (k : Nat) (u : Value), u = vx ∧ k ≤ L.length ∧ t = .int .i64 (k : Int) ∧ Below w.heap.size w wr ∧ Own wr w.heap.size 9 u ((L.take k).map .string)) (fun t _ _ => L.length - (intOf t).toNat)
  case atStart => exact ⟨0, _, rfl, by omega, rfl, Below.refl _ _, Own.nil _ _ _⟩
  case round =>
    obtain ⟨k, u, rfl, hk, rfl, hb, hO⟩ := hrel
    have hB := h.below hb
    have c0 := hB.c0
    have c1 := hB.c1
    by_cases hlt : k < L.length
    · have k1 : decide ((k : Int) < (L.length : Int)) = true := decide_eq_true (by omega)
      have k2 : (k : Int) < (L.length : Int) := by omega
      have s0 := hB.s0 hlt
      obtain ⟨v', w2, hap, hO2, hb2⟩ := Own.push (P := Try.prog) (T := 47) Try.underlying47 s1 s2 s3 s4 rfl hO (.string L[k]) rfl hb.size (by rw [List.length_map, List.length_take]; omega) (by rw [List.length_map, List.length_take]; omega)
      have e1 : (L.take k).map Value.string ++ [.string L[k]] = (L.take (k + 1)).map .string := by rw [List.take_succ_eq_append_getElem hlt, List.map_append]; rfl
      rw [e1] at hO2
      have hrel2 := Lib.hid (And.intro (hb.trans hb2) hO2)
      clear hB hb hO hO2 hb2 e1
      generalize L[k] = Lk at *
      go_wp2_with (at_builtin; refine wpList_append_run hap _ _ rfl rfl rfl rfl rfl ?_)
      go_roundw
      case rel => exact ⟨k + 1, _, rfl, by omega, by go_num, hrel2.out⟩
      case measure => simp [intOf]; omega
    · have k1 : decide ((k : Int) < (L.length : Int)) = false := decide_eq_false (by omega)
      have k2 : ¬ ((k : Int) < (L.length : Int)) := by omega
      have hkl : k = L.length := by omega
      rw [hkl, List.take_length] at hO
      clear hkl hlt hB
      go_wp2_with (fail)
      go_ret
      exact ⟨_, rfl, hb, hO⟩
set_option maxHeartbeats 1000000 in
theorem qimage_dead {w : World} {S : Nat → Prop} {m q cap : Nat} {L : List ByteArray} {V : Int → List ByteArray} {F : Nat → Value} (h : QBox w S m q cap true L V F) :
    Calls Try.prog 36 #[.pointer (some ⟨m, 0, none⟩)] w fun e w' => e = .returned (.slice none 0 0) ∧ w = w' := by
  have hn1 := h.n1
  have hn2 := h.n2
  have hll := h.len
  have c0 := h.c0
  have c1 := h.c1
  have k1 : decide ((0 : Int) < (L.length : Int)) = true := decide_eq_true (by omega)
  have k2 : (0 : Int) < (L.length : Int) := by omega
  clear h
  go_enter Try.func36, Try.ntmps36
  go_wp2_with (fail)
  go_loopw [4, 3] (fun t vx wr => wr = w ∧ t = .int .i64 0 ∧ vx = .slice none 0 0) (fun _ _ _ => 0)
  case atStart => exact ⟨rfl, rfl, rfl⟩
  case round =>
    obtain ⟨rfl, rfl, rfl⟩ := hrel
    go_wp2_with (fail)
    go_ret
    exact ⟨rfl, rfl⟩
/-- Failed or not. -/
theorem QBox.setFd {w : World} {S : Nat → Prop} {m q cap : Nat} {fd : Bool} {L : List ByteArray} {V : Int → List ByteArray} {F : Nat → Value} (h : QBox w S m q cap fd L V F) (b : Bool) :
    QBox (w.setCell ⟨m, 1, none⟩ (.bool b)) S m q cap b L V F ∧ Stp S S w (w.setCell ⟨m, 1, none⟩ (.bool b)) := by
  have k5 : ∀ k, k ≠ m → (w.setCell ⟨m, 1, none⟩ (.bool b)).heap[k]? = w.heap[k]? := fun k hk => Below.heap_setCell _ _ _ _ hk
  have k4 : (w.setCell ⟨m, 1, none⟩ (.bool b)).heap.size = w.heap.size := by simp
  refine ⟨⟨?_, h.l.sameAt fun k hk => by injection hk with hk; subst hk; exact k5 _ (Ne.symm h.mq), fun i hi => (h.r i hi).at_ fun k hk => k5 k (h.sr i hi k hk).2.1, h.sm, h.sq, h.sr, h.mq, fun k hk => by rw [k4]; exact h.lt k hk, h.keys, h.n1, h.n2, h.zl, h.zv⟩,
    ⟨⟨rfl, rfl, rfl, by rw [k4]; exact Nat.le_refl _, fun k hk => absurd hk (Nat.not_lt_zero _)⟩, fun k hk hn => k5 k (fun e => hn (e ▸ h.sm)), fun k hk => .inl hk⟩⟩
  simp [World.setCell, Array.getElem?_modify, h.b]
/-- Blank sectors are put in. -/
theorem QBox.setQ {w w1 : World} {S : Nat → Prop} {m q cap : Nat} {fd : Bool} {L : List ByteArray} {V : Int → List ByteArray} {F : Nat → Value} (h : QBox w S m q cap fd L V F) (hb : Below w.heap.size w w1) {q2 cap2 : Nat}
    (hO : OwnE sE w1 w.heap.size 83 (.slice (some ⟨q2, 0, none⟩) L.length cap2) (List.replicate L.length (zero128, nilS))) :
    QStep w S m fd (List.replicate L.length zero128) noV (w1.setCell ⟨m, 0, none⟩ (.slice (some ⟨q2, 0, none⟩) L.length cap2)) := by
  have h1 := h.below hb
  have k5 : ∀ k, k ≠ m → (w1.setCell ⟨m, 0, none⟩ (.slice (some ⟨q2, 0, none⟩) L.length cap2)).heap[k]? = w1.heap[k]? := fun k hk => Below.heap_setCell _ _ _ _ hk
  have k4 : (w1.setCell ⟨m, 0, none⟩ (.slice (some ⟨q2, 0, none⟩) L.length cap2)).heap.size = w1.heap.size := by simp
  have hq := hO.lt q2 rfl
  have hm := h.lt m h.sm
  refine ⟨fun k => S k ∨ k = q2, q2, cap2, fun _ => nilS, ⟨⟨hb.os, hb.tape, hb.output, by rw [k4]; exact hb.size, fun k hk => absurd hk (Nat.not_lt_zero _)⟩, fun k hk hn => ?_, fun k hk => hk.imp id (fun e => by rw [e]; exact hq.1)⟩,
    ⟨?_, ?_, fun i hi => Own.nil _ _ _, .inl h.sm, .inr rfl, fun i hi k hk => (by cases hk), by omega, fun k hk => ?_, fun z hz => absurd rfl hz, by rw [List.length_replicate]; exact h.n1, by rw [List.length_replicate]; exact h.n2, fun s hs => ?_, fun z s hs => (by cases hs)⟩⟩
  · rw [k5 k (fun e => hn (e ▸ h.sm))]; exact hb.block k hk
  · rw [List.length_replicate]
    simp [World.setCell, Array.getElem?_modify, h1.b]
  · rw [List.length_replicate, qL_rep]
    exact (hO.mono (Nat.zero_le _)).sameAt fun k hk => by injection hk with hk; subst hk; exact k5 _ (by show q2 ≠ m; omega)
  · rw [k4]
    rcases hk with hk | rfl
    · exact Nat.lt_of_lt_of_le (h.lt k hk) hb.size
    · exact hq.2
  · rw [List.eq_of_mem_replicate hs]; exact zero128_size
theorem QStep.trans {w w1 w2 : World} {S : Nat → Prop} {m : Nat} {fd : Bool} {L : List ByteArray} {V : Int → List ByteArray} (hs : Stp S S w w1) (h : QStep w1 S m fd L V w2) : QStep w S m fd L V w2 := by
  obtain ⟨S', q, cap, F, h1, h2⟩ := h
  exact ⟨S', q, cap, F, hs.trans h1, h2⟩
set_option maxHeartbeats 1000000 in
theorem qblankm_any {w : World} {S : Nat → Prop} {m q cap : Nat} {fd : Bool} {L : List ByteArray} {V : Int → List ByteArray} {F : Nat → Value} (h : QBox w S m q cap fd L V F) :
    Calls Try.prog 20 #[.pointer (some ⟨m, 0, none⟩)] w fun e w' => e = .returned (.tuple #[]) ∧ QStep w S m false (List.replicate L.length zero128) noV w' := by
  have c1 := h.c1
  have f1 := h.f 1
  have hll := h.len
  obtain ⟨h1, st1⟩ := h.setFd false
  have c0 := h1.c0
  have hn1 := h.n1
  have cb := qblank_any L.length (w.setCell ⟨m, 1, none⟩ (.bool false)) h.n2
  clear h
  go_enter Try.func20, Try.ntmps20
  go_wp2_with (fail)
  refine cb.mono ?_
  rintro e w2 ⟨v, rfl, hb, hO⟩
  obtain ⟨q2, cap2, hv, _, _⟩ := hO.form (by rw [List.length_replicate]; exact hn1)
  rw [List.length_replicate] at hv
  subst hv
  have c02 := (h1.below hb).c0
  have f02 := (h1.below hb).f 0
  have hfin := Lib.hid (QStep.trans st1 (h1.setQ hb hO))
  clear h1 st1 hb hO cb
  go_wp2_with (fail)
  go_end0
  exact ⟨rfl, hfin.out⟩
set_option maxHeartbeats 1000000 in
theorem qfail_any {w : World} {S : Nat → Prop} {m q cap : Nat} {fd : Bool} {L : List ByteArray} {V : Int → List ByteArray} {F : Nat → Value} (h : QBox w S m q cap fd L V F) :
    Calls Try.prog 18 #[.pointer (some ⟨m, 0, none⟩)] w fun e w' => e = .returned (.tuple #[]) ∧ QStep w S m true (List.replicate L.length zero128) noV w' := by
  have c1 := h.c1
  have f1 := h.f 1
  have hll := h.len
  obtain ⟨h1, st1⟩ := h.setFd true
  have c0 := h1.c0
  have hn1 := h.n1
  have cb := qblank_any L.length (w.setCell ⟨m, 1, none⟩ (.bool true)) h.n2
  clear h
  go_enter Try.func18, Try.ntmps18
  go_wp2_with (fail)
  refine cb.mono ?_
  rintro e w2 ⟨v, rfl, hb, hO⟩
  obtain ⟨q2, cap2, hv, _, _⟩ := hO.form (by rw [List.length_replicate]; exact hn1)
  rw [List.length_replicate] at hv
  subst hv
  have c02 := (h1.below hb).c0
  have f02 := (h1.below hb).f 0
  have hfin := Lib.hid (QStep.trans st1 (h1.setQ hb hO))
  clear h1 st1 hb hO cb
  go_wp2_with (fail)
  go_end0
  exact ⟨rfl, hfin.out⟩
end Go.Proofs.Ytofhmdbilhdblaa
