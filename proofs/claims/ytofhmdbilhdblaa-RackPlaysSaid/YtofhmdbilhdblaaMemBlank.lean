/- member: Blank, Fail. -/
import Derived.Test.YtofhmdbilhdblaaMemFlushW
namespace Go.Proofs.Ytofhmdbilhdblaa
open Go.RowKit
set_option linter.unusedVariables false
set_option linter.unusedSimpArgs false
set_option maxRecDepth 100000

theorem zeroCells_rep (c : List Value) (n : Nat) (hc : 0 < c.length) : (Builtin.zeroCells c.toArray n).toList = (List.replicate n c).flatten := by
  apply List.ext_getElem?
  intro i
  induction n generalizing i with
  | zero => simp [Builtin.zeroCells]
  | succ n ih =>
    rw [List.replicate_succ, List.flatten_cons, List.getElem?_append]
    by_cases h : i < c.length
    · have h2 : i < (n + 1) * c.length := by rw [Nat.succ_mul]; omega
      rw [if_pos h]
      simp [Builtin.zeroCells, List.getElem?_range h2, Nat.mod_eq_of_lt h, h]
    · rw [if_neg h, ← ih]
      by_cases h3 : i < (n + 1) * c.length
      · have h4 : i - c.length < n * c.length := by rw [Nat.succ_mul] at h3; omega
        have hm : (i - c.length) % c.length = i % c.length := by
          conv => rhs; rw [show i = (i - c.length) + c.length by omega, Nat.add_mod_right]
        simp [Builtin.zeroCells, List.getElem?_range h3, List.getElem?_range h4, hm]
      · have h4 : ¬ (i - c.length < n * c.length) := by rw [Nat.succ_mul] at h3; omega
        rw [List.getElem?_eq_none (by simp [Builtin.zeroCells]; omega), List.getElem?_eq_none (by simp [Builtin.zeroCells]; omega)]
theorem all_rep : ∀ n, EC.all (List.replicate n zero128) = (List.replicate n (contL zero128)).flatten
  | 0 => rfl
  | n + 1 => by
    rw [List.replicate_succ, List.replicate_succ, EC.all_cons, List.flatten_cons, all_rep n]; rfl
theorem cont_zv : ∀ w, (zeroValue 80).run Try.prog w = .ok (.agg (contL zero128).toArray) w := fun w => (zero_of_info cont_zs).1 w
/-- All that lasts is noughts. -/
theorem PBox.clearL {w : World} {S : Nat → Prop} {m g bp cap : Nat} {fd : Bool} {L : List ByteArray} {V : Int → List ByteArray} {F : Int → Value} (h : PBox w S m g bp cap fd L V F) (ty : TypeId) :
    ∃ w', (Builtin.clear_ #[71] ty #[.slice (some ⟨g, 0, none⟩) L.length cap]).run Try.prog w = .ok (.tuple #[]) w' ∧ PBox w' S m g bp cap fd (List.replicate L.length zero128) V F ∧ Stp S S w w' := by
  obtain ⟨vs, hvs⟩ : ∃ vs, vs = EC.all (List.replicate L.length zero128) := ⟨_, rfl⟩
  have hvl : vs.length = L.length * 128 := by rw [hvs, EC.all_len, List.length_replicate]; rfl
  have hz : (Builtin.zeroCells (contL zero128).toArray L.length).toList = vs := by rw [hvs, all_rep]; exact zeroCells_rep _ _ (by rw [contL_len]; omega)
  obtain ⟨_, hB, cur, hg, h1, h2, h3, h4⟩ := h.l.row
  obtain ⟨cur', k1, k2, k3⟩ := setCells_heap g 80 vs 0 w cur hg
  obtain ⟨e1, e2, e3, e4, e5⟩ := setCells_step g vs 0 w
  have hcs : L.length * 128 ≤ cur.size := by rw [h3]; exact Nat.mul_le_mul_right _ h1
  have hst := run_storeCells_cells (P := Try.prog) g 0 vs 0 w (fun j hj => by
    rw [hvl] at hj
    have : (w.cell? ⟨g, 0 + 0 + j, none⟩) = cur[j]? := by simp [World.cell?, hg]
    rw [this, Array.getElem?_eq_getElem (by omega)]; rfl) (fun j hj => h.l.frozen _) (fun v hv => by
    rw [hvs, all_rep] at hv
    obtain ⟨x, hx, hv⟩ := List.mem_flatten.1 hv
    rw [List.eq_of_mem_replicate hx] at hv
    exact contL_one _ v hv)
  have hn : L.length ≠ 0 := by have := h.n1; omega
  refine ⟨w.setCells g 0 vs, ?_, ⟨?_, ?_, ?_, fun z hz => (h.r z hz).sameAt fun k hk => e5 k (h.sr z hz k hk).2.2.1, h.sm, h.sg, h.sp, h.sr, h.ap, h.mg, h.mp, h.gp, fun k hk => by rw [e4]; exact h.lt k hk, ?_, ?_, ?_, ?_, h.zv⟩, ⟨⟨e1, e2, e3, by omega, fun k hk => absurd hk (Nat.not_lt_zero _)⟩, fun k _ hn => e5 k (fun e => hn (e ▸ h.sg)), fun k hk => .inl hk⟩⟩
  · obtain ⟨mm, hmm⟩ : ∃ mm, L.length = mm + 1 := ⟨L.length - 1, by omega⟩
    rw [hmm] at hz ⊢
    have hzc : (Value.agg (contL zero128).toArray).cells = (contL zero128).toArray := rfl
    have hzz : Try.zeroCells80 = (contL zero128).toArray := by
      have := (Try.zeroValue80 w).symm.trans (cont_zv w)
      injection this with this
    rw [← hzc, ← hzz] at hz
    simp only [Nat.add_zero] at hst
    simp [Builtin.clear_, run_underlying Try.underlying71, hz, hst]
  · rw [e5 m h.mg, List.length_replicate]; exact h.b
  · rw [List.length_replicate]
    have := OwnE.ofRow (E := EC) (l := List.replicate L.length zero128) hB k1 (by rw [List.length_replicate]; exact h1) h2 (k2.trans h3) ?_
    · rw [List.length_replicate] at this; exact this
    · rw [List.length_replicate, ← hvs]
      apply List.ext_getElem?
      intro j
      rw [ec_k]
      by_cases hj : j < L.length * 128
      · rw [List.getElem?_take_of_lt hj, Array.getElem?_toList, k3 j, if_pos ⟨Nat.zero_le _, by omega, by omega⟩, Nat.sub_zero]
      · rw [List.getElem?_eq_none (by rw [List.length_take]; omega), List.getElem?_eq_none (by omega)]
  · rw [List.length_replicate]; exact h.p.heap (e5 bp (Ne.symm h.gp))
  · rw [List.length_replicate]; exact h.keys
  · rw [List.length_replicate]; exact h.n1
  · rw [List.length_replicate]; exact h.n2
  · intro t ht
    rw [List.eq_of_mem_replicate ht]; exact zero128_size
/-- Whether it has failed is set. -/
theorem PBox.setFd {w : World} {S : Nat → Prop} {m g bp cap : Nat} {fd : Bool} {L : List ByteArray} {V : Int → List ByteArray} {F : Int → Value} (h : PBox w S m g bp cap fd L V F) (b : Bool) :
    PBox (w.setCell ⟨m, 0, none⟩ (.bool b)) S m g bp cap b L V F ∧ Stp S S w (w.setCell ⟨m, 0, none⟩ (.bool b)) := by
  have e5 : ∀ k, k ≠ m → (w.setCell ⟨m, 0, none⟩ (.bool b)).heap[k]? = w.heap[k]? := fun k hk => Below.heap_setCell _ _ _ _ hk
  refine ⟨⟨?_, ?_, h.p.heap (e5 bp (Ne.symm h.mp)), fun z hz => (h.r z hz).sameAt fun k hk => e5 k (h.sr z hz k hk).2.1, h.sm, h.sg, h.sp, h.sr, h.ap, h.mg, h.mp, h.gp, fun k hk => by rw [show (w.setCell ⟨m, 0, none⟩ (.bool b)).heap.size = w.heap.size by simp]; exact h.lt k hk, h.keys, h.n1, h.n2, h.zl, h.zv⟩,
    ⟨⟨rfl, rfl, rfl, by simp, fun k hk => absurd hk (Nat.not_lt_zero _)⟩, fun k _ hn => e5 k (fun e => hn (e ▸ h.sm)), fun k hk => .inl hk⟩⟩
  · simp [World.setCell, Array.getElem?_modify, h.b]
  · refine h.l.sameAt fun k hk => ?_
    injection hk with hk; subst hk
    exact e5 _ (Ne.symm h.mg)
/-- What a member without anything pending leaves. -/
def Leaves (w : World) (S : Nat → Prop) (m g bp cap : Nat) (fd : Bool) (L : List ByteArray) (u : Value) (e : Ending) (w' : World) : Prop := e = .returned u ∧ Stp S S w w' ∧ PBox w' S m g bp cap fd L noV noF
set_option maxRecDepth 100000 in
theorem blank_any {w : World} {S : Nat → Prop} {m g bp cap : Nat} {fd : Bool} {L : List ByteArray} {V : Int → List ByteArray} {F : Int → Value} (h : PBox w S m g bp cap fd L V F) :
    Calls Try.prog 19 #[.pointer (some ⟨m, 0, none⟩)] w (Leaves w S m g bp cap false (List.replicate L.length zero128) (.tuple #[])) := by
  have c0 := h.c0
  have f0 := h.f 0
  obtain ⟨h1, s1⟩ := h.setFd false
  have c1 := h1.c1
  obtain ⟨w2, hcl1, h2, s2⟩ := h1.clearL 0
  have c2 := h2.c2
  obtain ⟨w3, hcl2, h3, s3⟩ := h2.clear 0
  have hfin : Hid (Leaves w S m g bp cap false (List.replicate L.length zero128) (.tuple #[]) (.returned (.tuple #[])) w3) := Lib.hid ⟨rfl, (s1.trans s2).trans s3, h3⟩
  clear h h1 h2 h3 s1 s2 s3
  go_enter Try.func19, Try.ntmps19
  go_wp2_with (fail)
  go_end0
  exact hfin.out
set_option maxRecDepth 100000 in
theorem fail_any {w : World} {S : Nat → Prop} {m g bp cap : Nat} {fd : Bool} {L : List ByteArray} {V : Int → List ByteArray} {F : Int → Value} (h : PBox w S m g bp cap fd L V F) :
    Calls Try.prog 17 #[.pointer (some ⟨m, 0, none⟩)] w (Leaves w S m g bp cap true (List.replicate L.length zero128) (.tuple #[])) := by
  have cb := blank_any h
  clear h
  go_enter Try.func17, Try.ntmps17
  go_wp2_with (fail)
  refine cb.mono ?_
  rintro e w1 ⟨rfl, s1, h1⟩
  clear cb
  have c0 := h1.c0
  have f0 := h1.f 0
  obtain ⟨h2, s2⟩ := h1.setFd true
  have hfin : Hid (Leaves w S m g bp cap true (List.replicate L.length zero128) (.tuple #[]) (.returned (.tuple #[])) (w1.setCell ⟨m, 0, none⟩ (.bool true))) := Lib.hid ⟨rfl, s1.trans s2, h2⟩
  clear h1 h2 s1 s2
  go_wp2_with (fail)
  go_end0
  exact hfin.out
end Go.Proofs.Ytofhmdbilhdblaa

