/- the document's member: Flush, Pending, Image. -/
import Derived.Test.YtofhmdbilhdblaaMemQ2
import Derived.Test.YtofhmdbilhdblaaMemS
namespace Go.Proofs.Ytofhmdbilhdblaa
open Go.RowKit
set_option linter.unusedVariables false
set_option linter.unusedSimpArgs false
set_option maxRecDepth 100000

theorem updQ_same {α : Type} (V : Int → α) (z : Int) (l : α) : updZ V z l z = l := by simp [updZ]
theorem updQ_other {α : Type} (V : Int → α) (z y : Int) (l : α) (h : y ≠ z) : updZ V z l y = V y := by simp [updZ, h]
/-- A sector is set whole; nothing is pending there. -/
theorem QBox.setS {w : World} {S : Nat → Prop} {m q cap : Nat} {fd : Bool} {L : List ByteArray} {V : Int → List ByteArray} {F : Nat → Value} (h : QBox w S m q cap fd L V F) (i : Nat) (hi : i < L.length) (t : ByteArray) (ht : t.size = 128) :
    QBox ((w.setCell ⟨q, i * 2, none⟩ (.string t)).setCell ⟨q, i * 2 + 1, none⟩ (.slice none 0 0)) S m q cap fd (L.set i t) (updZ V i []) (upq F i nilS) ∧ Stp S S w ((w.setCell ⟨q, i * 2, none⟩ (.string t)).setCell ⟨q, i * 2 + 1, none⟩ (.slice none 0 0)) := by
  have k5 : ∀ k, k ≠ q → ((w.setCell ⟨q, i * 2, none⟩ (.string t)).setCell ⟨q, i * 2 + 1, none⟩ (.slice none 0 0)).heap[k]? = w.heap[k]? := fun k hk => (Below.heap_setCell _ _ _ _ hk).trans (Below.heap_setCell _ _ _ _ hk)
  have k4 : ((w.setCell ⟨q, i * 2, none⟩ (.string t)).setCell ⟨q, i * 2 + 1, none⟩ (.slice none 0 0)).heap.size = w.heap.size := by simp
  have hA := h.l.setA i (by rw [qL_len]; exact hi) (t, nilS)
  rw [qL_set L F i hi] at hA
  refine ⟨⟨?_, ?_, fun j hj => ?_, h.sm, h.sq, fun j hj k hk => ?_, h.mq, fun k hk => by rw [k4]; exact h.lt k hk, fun z hz => ?_, by rw [List.length_set]; exact h.n1, by rw [List.length_set]; exact h.n2, fun s hs => ?_, fun z s hs => ?_⟩, ⟨⟨rfl, rfl, rfl, by rw [k4]; exact Nat.le_refl _, fun k hk => absurd hk (Nat.not_lt_zero _)⟩, fun k hk hn => k5 k (fun e => hn (e ▸ h.sq)), fun k hk => .inl hk⟩⟩
  · rw [k5 m h.mq, List.length_set]; exact h.b
  · rw [List.length_set]; exact hA
  · rw [List.length_set] at hj
    by_cases e : j = i
    · subst e
      rw [upq_same, updQ_same]; exact Own.nil _ _ _
    · rw [upq_other _ _ _ _ e, updQ_other _ _ _ _ (by omega)]
      exact (h.r j hj).at_ fun k hk => k5 k (h.sr j hj k hk).2.2
  · rw [List.length_set] at hj
    by_cases e : j = i
    · subst e
      rw [upq_same] at hk; cases hk
    · rw [upq_other _ _ _ _ e] at hk
      exact h.sr j hj k hk
  · rw [List.length_set]
    by_cases e : z = (i : Int)
    · subst e; omega
    · rw [updQ_other _ _ _ _ e] at hz; exact h.keys z hz
  · rcases List.mem_or_eq_of_mem_set hs with x | x
    · exact h.zl s x
    · rw [x]; exact ht
  · by_cases e : z = (i : Int)
    · subst e; rw [updQ_same] at hs; cases hs
    · rw [updQ_other _ _ _ _ e] at hs; exact h.zv z s hs
/-- What is pending from sector k on. -/
def cutV (V : Int → List ByteArray) (k : Nat) : Int → List ByteArray := fun z => if z < (k : Int) then [] else V z
theorem cutV_at (V : Int → List ByteArray) (k : Nat) : cutV V k (k : Int) = V k := by unfold cutV; rw [if_neg (by omega)]
theorem cutV_step (V : Int → List ByteArray) (k : Nat) : updZ (cutV V k) (k : Int) [] = cutV V (k + 1) := by
  funext z
  unfold cutV updZ
  by_cases h : z = (k : Int)
  · subst h; rw [if_pos rfl, if_pos (by omega)]
  · rw [if_neg h]
    dsimp only
    by_cases h2 : z < (k : Int)
    · rw [if_pos h2, if_pos (by omega)]
    · rw [if_neg h2, if_neg (by omega)]
theorem cutV_none (V : Int → List ByteArray) (k : Nat) (h : V k = []) : cutV V (k + 1) = cutV V k := by
  rw [← cutV_step, show ([] : List ByteArray) = cutV V k (k : Int) by rw [cutV_at, h]]
  funext z; unfold updZ; by_cases e : z = (k : Int)
  · rw [if_pos e, e]
  · rw [if_neg e]
theorem cutV_zero (V : Int → List ByteArray) (h : ∀ z, V z ≠ [] → 0 ≤ z) : cutV V 0 = V := by
  funext z; unfold cutV
  by_cases e : z < ((0 : Nat) : Int)
  · rw [if_pos e]
    apply Classical.byContradiction
    intro hn
    have := h z (fun x => hn x.symm)
    omega
  · rw [if_neg e]
theorem cutV_all (V : Int → List ByteArray) (n : Nat) (h : ∀ z, V z ≠ [] → z < (n : Int)) : cutV V n = noV := by
  funext z; unfold cutV noV
  by_cases e : z < (n : Int)
  · rw [if_pos e]
  · rw [if_neg e]
    apply Classical.byContradiction
    intro hn
    exact e (h z hn)
def flK (L : List ByteArray) (V : Int → List ByteArray) (k : Nat) : List ByteArray := flL L V fun z => decide (z < (k : Int))
theorem flK_len (L : List ByteArray) (V : Int → List ByteArray) (k : Nat) : (flK L V k).length = L.length := flL_len _ _ _
theorem flK_step (L : List ByteArray) (V : Int → List ByteArray) (k : Nat) (hk : k < L.length) : (flK L V k).set k (lastOf (V k) L[k]) = flK L V (k + 1) :=
  flL_set L V _ _ k hk _ (by rw [List.getD_eq_getElem?_getD, List.getElem?_eq_getElem hk]; rfl) (decide_eq_true (by omega)) (fun i hne _ => by
    show decide ((i : Int) < ((k + 1 : Nat) : Int)) = decide ((i : Int) < (k : Int))
    by_cases e : (i : Int) < (k : Int)
    · rw [decide_eq_true e, decide_eq_true (by omega)]
    · rw [decide_eq_false e, decide_eq_false (by omega)])
theorem flK_get (L : List ByteArray) (V : Int → List ByteArray) (k : Nat) (hk : k < L.length) (h : k < (flK L V k).length) : (flK L V k)[k] = L[k] := by
  simp only [flK, flL, List.getElem_map, List.getElem_range]
  rw [if_neg (by simp), List.getD_eq_getElem?_getD, List.getElem?_eq_getElem hk]; rfl
theorem flK_none (L : List ByteArray) (V : Int → List ByteArray) (k : Nat) (hk : k < L.length) (h : V k = []) : flK L V (k + 1) = flK L V k := by
  rw [← flK_step L V k hk, h]
  show (flK L V k).set k L[k] = _
  rw [← flK_get L V k hk (by rw [flK_len]; exact hk), List.set_getElem_self]
theorem flK_zero (L : List ByteArray) (V : Int → List ByteArray) : flK L V 0 = L := flL_none _ _ _ fun i _ => decide_eq_false (by omega)
theorem flK_all (L : List ByteArray) (V : Int → List ByteArray) : flK L V L.length = flush L V := flL_same L V _ fun i hi _ => decide_eq_true (by omega)
theorem last_of_own {w : World} {B : Nat} {T : TypeId} {F0 : Value} {vs : List ByteArray} (h0 : 0 < vs.length) (ho : Own w B T F0 (vs.map .string)) (d : ByteArray) :
    ∃ g c k, F0 = .slice (some ⟨g, 0, none⟩) (k + 1) c ∧ vs.length = k + 1 ∧ w.cell? ⟨g, k, none⟩ = some (.string (lastOf vs d)) ∧ g < w.heap.size := by
  obtain ⟨g, c, rfl, _, hg⟩ := ho.form (by rw [List.length_map]; exact h0)
  obtain ⟨k, hk⟩ : ∃ k, vs.length = k + 1 := ⟨vs.length - 1, by omega⟩
  refine ⟨g, c, k, by rw [List.length_map, hk], hk, ?_, hg⟩
  have cl := ho.cell (i := k) (by rw [List.length_map]; omega)
  rw [cl, List.getD_eq_getElem?_getD, List.getElem?_map, List.getElem?_eq_getElem (by omega)]
  unfold lastOf
  simp [List.getLastD_eq_getLast?, List.getLast?_eq_getElem?, hk]
theorem qflush_dead {w : World} {S : Nat → Prop} {m q cap : Nat} {L : List ByteArray} {V : Int → List ByteArray} {F : Nat → Value} (h : QBox w S m q cap true L V F) :
    Calls Try.prog 14 #[.pointer (some ⟨m, 0, none⟩)] w fun e w' => e = .returned (.int .i64 80) ∧ w = w' := by
  have c1 := h.c1
  clear h
  go_enter Try.func14, Try.ntmps14
  go_wp2
  go_ret
  exact ⟨rfl, rfl⟩
theorem QBox.drew {w : World} {S : Nat → Prop} {m q cap : Nat} {fd : Bool} {L : List ByteArray} {V : Int → List ByteArray} {F : Nat → Value} (h : QBox w S m q cap fd L V F) : QBox w.drew S m q cap fd L V F := h.heap (fun _ _ => rfl) (Nat.le_refl _)
set_option maxHeartbeats 2000000 in
theorem qflush_any {w : World} {S : Nat → Prop} {m q cap : Nat} {L : List ByteArray} {V : Int → List ByteArray} {F : Nat → Value} (h : QBox w S m q cap false L V F) (hv : ∀ z, (V z).length ≤ 1000000000000) :
    Calls Try.prog 14 #[.pointer (some ⟨m, 0, none⟩)] w fun e w' => e = .returned (.int .i64 0) ∧ QStep w S m false (flush L V) noV w' := by
  have c1 := h.c1
  have hn2 := h.n2
  have hkeys := h.keys
  have hzl := h.zl
  have hzv := h.zv
  obtain ⟨n, hn⟩ : ∃ n, L.length = n := ⟨_, rfl⟩
  have hll := h.len
  rw [hn] at hll hn2
  have h0 : QBox w S m q cap false (flK L V 0) (cutV V 0) F := by rw [flK_zero, cutV_zero V fun z hz => (hkeys z hz).1]; exact h
  clear h
  go_enter Try.func14, Try.ntmps14
  go_wp2_with (fail)
  go_loopw [3] (fun t wr => ∃ (k : Nat) (F' : Nat → Value), k ≤ n ∧ t = .int .i64 (k : Int) ∧ Stp S S w wr ∧ QBox wr S m q cap false (flK L V k) (cutV V k) F') (fun t _ => n - (intOf t).toNat)
  case atStart => exact ⟨0, F, by omega, rfl, Stp.refl _ _, h0⟩
  case round =>
    clear h0 c1
    obtain ⟨k, F', hk, rfl, hSt, hB⟩ := hrel
    have c0 := hB.c0
    rw [flK_len, hn] at c0
    by_cases hlt : k < n
    · have k1 : (k : Int) < (n : Int) := by omega
      have hkL : k < (flK L V k).length := by rw [flK_len]; omega
      have s1 := hB.s1 hkL
      have lv := hB.lenV hkL
      have ho := hB.r k hkL
      rw [cutV_at] at lv ho
      obtain ⟨F0, hF⟩ : ∃ F0, F' k = F0 := ⟨_, rfl⟩
      rw [hF] at ho lv s1
      rcases Nat.eq_zero_or_pos (V k).length with e0 | e0
      · have e1 : V k = [] := List.eq_nil_of_length_eq_zero e0
        have t1 : ¬ (0 < ((V (k : Int)).length : Int)) := by omega
        have hrel2 := Lib.hid hB
        rw [← flK_none L V k (by omega) e1, ← cutV_none V k e1] at hrel2
        clear hB ho e1 e0 hF
        go_wp2_with (fail)
        go_roundw
        case rel => exact ⟨k + 1, F', by omega, by go_num, hSt, hrel2.out⟩
        case measure => simp [intOf]; omega
      · obtain ⟨g, c, j, rfl, hj, cl, hg⟩ := last_of_own e0 ho (L[k]'(by omega))
        have t1 : (0 : Int) < ((j + 1 : Nat) : Int) := by omega
        have wk : IntKind.i64.wrap (((j + 1 : Nat) : Int) - 1) = (j : Int) := by rw [IntKind.wrap_i64]; have := hv k; omega
        have hj12 : (j : Int) ≤ 1000000000000 := by have := hv k; omega
        have wj : IntKind.i64.wrap (j : Int) = (j : Int) := by rw [IntKind.wrap_i64]; omega
        rw [hj] at lv
        have hsz : (lastOf (V k) (L[k]'(by omega))).size = 128 := by
          rw [lastOf_get _ _ (by intro e; rw [e] at e0; exact absurd e0 (Nat.lt_irrefl _)) (by omega)]
          exact hzv _ _ (List.getElem_mem _)
        obtain ⟨h2, st2⟩ := hB.drew.setS k hkL _ hsz
        rw [flK_step L V k (by omega), cutV_step] at h2
        have hrel2 := Lib.hid (And.intro (hSt.trans ((Stp.quiet (S := S) (Below.refl wr.heap.size wr).drew).trans st2)) h2)
        have f0 := hB.sf (k * 2)
        have f1 := hB.sf (k * 2 + 1)
        have s0 := hB.s0 hkL
        obtain ⟨Lk, hLk⟩ : ∃ x, (flK L V k)[k] = x := ⟨_, rfl⟩
        rw [hLk] at s0
        clear hB ho hF h2 st2 hLk hsz hSt
        generalize lastOf (V k) (L[k]'(by omega)) = tt at *
        go_wp2_with (fail)
        go_region
        all_goals
          go_wp2_with (fail)
          go_roundw
          case rel => exact ⟨k + 1, _, by omega, by go_num, hrel2.out⟩
          case measure => simp [intOf]; omega
    · obtain rfl : k = n := by omega
      have hfin : Hid (QStep w S m false (flush L V) noV wr) := by
        rw [← hn, flK_all, cutV_all V _ fun z hz => (hkeys z hz).2] at hB
        exact Lib.hid ⟨S, q, cap, F', hSt, hB⟩
      clear hB hSt
      go_wp2_with (fail)
      go_ret
      exact ⟨rfl, hfin.out⟩
end Go.Proofs.Ytofhmdbilhdblaa
