/- rs: what its calls lean on. -/
import Derived.Test.YtcmnojflllcdfaaDoorMatLaw7
import Derived.Test.YtcmnojflllcdfaaDoorSl3
import Derived.Test.YtcmnojflllcdfaaDoorBRow
namespace Go.Proofs.YtcmnojflllcdfaaDoor
open Go.RowKit
set_option linter.unusedVariables false
set_option linter.unusedSimpArgs false

def fits8 (n : Int) : Bool := decide (1 ≤ n ∧ n ≤ 8)
theorem rsfits_any (n : Int) (w : World) : Calls Tryd.prog 24 #[.int .i64 n] w fun e w' => e = .returned (.bool (fits8 n)) ∧ w = w' := by
  by_cases h1 : 1 ≤ n
  · have t1 : decide (1 ≤ n) = true := by simpa using h1
    cases t2 : decide (n ≤ 8) with
    | true =>
      have hz : Hid (fits8 n = true) := Lib.hid (by simp at t2; simp [fits8]; omega)
      go_enter Tryd.func24, Tryd.ntmps24
      go_wp2
      go_ret
      exact ⟨by rw [hz.out]; rfl, rfl⟩
    | false =>
      have hz : Hid (fits8 n = false) := Lib.hid (by simp at t2; simp [fits8]; omega)
      go_enter Tryd.func24, Tryd.ntmps24
      go_wp2
      go_ret
      exact ⟨by rw [hz.out]; rfl, rfl⟩
  · have t1 : decide (1 ≤ n) = false := by simpa using h1
    have hz : Hid (fits8 n = false) := Lib.hid (by simp [fits8]; omega)
    go_enter Tryd.func24, Tryd.ntmps24
    go_wp2
    go_ret
    exact ⟨by rw [hz.out]; rfl, rfl⟩
/-- Texts of one length, 1 to 4096; or none. -/
def alikeL (l : List ByteArray) : Bool := l.all fun s => s.size == (l.getD 0 ⟨#[]⟩).size && decide (1 ≤ s.size ∧ s.size ≤ 4096)
theorem alike_false {l : List ByteArray} {k : Nat} (hk : k < l.length) (h : (l.getD k ⟨#[]⟩).size ≠ (l.getD 0 ⟨#[]⟩).size ∨ (l.getD k ⟨#[]⟩).size < 1 ∨ 4096 < (l.getD k ⟨#[]⟩).size) : alikeL l = false := by
  unfold alikeL
  rw [List.all_eq_false]
  refine ⟨l.getD k ⟨#[]⟩, by rw [List.getD_eq_getElem?_getD, List.getElem?_eq_getElem hk]; exact List.getElem_mem hk, ?_⟩
  simp only [Bool.and_eq_true, beq_iff_eq, decide_eq_true_eq]
  omega
theorem alike_true {l : List ByteArray} (h : ∀ k, k < l.length → (l.getD k ⟨#[]⟩).size = (l.getD 0 ⟨#[]⟩).size ∧ 1 ≤ (l.getD k ⟨#[]⟩).size ∧ (l.getD k ⟨#[]⟩).size ≤ 4096) : alikeL l = true := by
  unfold alikeL
  rw [List.all_eq_true]
  intro s hs
  obtain ⟨k, hk, rfl⟩ := List.getElem_of_mem hs
  have := h k hk
  rw [show l.getD k ⟨#[]⟩ = l[k] by rw [List.getD_eq_getElem?_getD, List.getElem?_eq_getElem hk]; rfl] at this
  simp only [Bool.and_eq_true, beq_iff_eq, decide_eq_true_eq]
  exact this
theorem alike_facts {l : List ByteArray} (h : alikeL l = true) : ∀ k, k < l.length → (l.getD k ⟨#[]⟩).size = (l.getD 0 ⟨#[]⟩).size ∧ 1 ≤ (l.getD k ⟨#[]⟩).size ∧ (l.getD k ⟨#[]⟩).size ≤ 4096 := fun k hk => by
  unfold alikeL at h
  rw [List.all_eq_true] at h
  have := h (l.getD k ⟨#[]⟩) (by rw [List.getD_eq_getElem?_getD, List.getElem?_eq_getElem hk]; exact List.getElem_mem hk)
  simpa only [Bool.and_eq_true, beq_iff_eq, decide_eq_true_eq] using this
set_option maxRecDepth 100000 in
set_option maxHeartbeats 1000000 in
theorem alike_any (v : Value) (l : List ByteArray) (w : World) (h : Reads w v (tx l)) (hF : Fits l) :
    Calls Tryd.prog 25 #[v] w fun e w' => e = .returned (.bool (alikeL l)) ∧ w = w' := by
  have hn := hF.n
  rcases h.srow with ⟨rfl, rfl⟩ | ⟨b, off, cap, rfl, hS⟩
  · go_enter Tryd.func25, Tryd.ntmps25
    go_wp2
    go_loopw [4, 7] (fun _ i wr => i = .int .i64 0 ∧ w = wr) (fun _ _ _ => 0)
    case atStart => exact ⟨rfl, rfl⟩
    case round =>
      obtain ⟨rfl, rfl⟩ := hrel
      go_wp2
      go_ret
      exact ⟨rfl, rfl⟩
  · go_enter Tryd.func25, Tryd.ntmps25
    go_wp2
    go_loopw [4, 7] (fun _ i wr => ∃ k : Nat, k ≤ l.length ∧ i = .int .i64 (k : Int) ∧ w = wr ∧ Hid (∀ j, j < k → (l.getD j ⟨#[]⟩).size = (l.getD 0 ⟨#[]⟩).size ∧ 1 ≤ (l.getD j ⟨#[]⟩).size ∧ (l.getD j ⟨#[]⟩).size ≤ 4096)) (fun _ i _ => l.length - (intOf i).toNat)
    case atStart => exact ⟨0, by omega, rfl, rfl, Lib.hid (fun j hj => by omega)⟩
    case round =>
      obtain ⟨k, hk, rfl, rfl, hj⟩ := hrel
      by_cases hlt : k < l.length
      · have hc := hS.cell k hlt
        have hc0 := hS.cell 0 (by omega)
        rw [Nat.add_zero] at hc0
        have hmk := hF.m k hlt
        have hm0 := hF.m 0 (by omega)
        have b1 : (k : Int) < (l.length : Int) := by omega
        by_cases he : (l.getD k ⟨#[]⟩).size = (l.getD 0 ⟨#[]⟩).size
        · have e3 : ((((l.getD k ⟨#[]⟩).size : Nat) : Int) != (((l.getD 0 ⟨#[]⟩).size : Nat) : Int)) = false := by rw [he]; exact bne_self_eq_false _
          by_cases h1 : 1 ≤ (l.getD k ⟨#[]⟩).size
          · have e4 : decide ((((l.getD k ⟨#[]⟩).size : Nat) : Int) < 1) = false := by rw [decide_eq_false_iff_not]; omega
            by_cases h2 : (l.getD k ⟨#[]⟩).size ≤ 4096
            · have e5 : decide (4096 < (((l.getD k ⟨#[]⟩).size : Nat) : Int)) = false := by rw [decide_eq_false_iff_not]; omega
              have hj' : Hid (∀ j, j < k + 1 → (l.getD j ⟨#[]⟩).size = (l.getD 0 ⟨#[]⟩).size ∧ 1 ≤ (l.getD j ⟨#[]⟩).size ∧ (l.getD j ⟨#[]⟩).size ≤ 4096) := Lib.hid (fun j hjk => by
                by_cases e : j = k
                · subst e; exact ⟨he, h1, h2⟩
                · exact hj.out j (by omega))
              obtain ⟨rk, hrk⟩ : ∃ r, l.getD k ⟨#[]⟩ = r := ⟨_, rfl⟩
              obtain ⟨r0, hr0⟩ : ∃ r, l.getD 0 ⟨#[]⟩ = r := ⟨_, rfl⟩
              rw [hrk] at hc hmk e3 e4 e5
              rw [hr0] at hc0 hm0 e3
              clear hj hrk hr0 he h1 h2
              go_wp2
              go_roundw
              case rel => exact ⟨k + 1, by omega, by go_num, (by first | rfl | trivial), hj'⟩
              case measure => simp [intOf]; omega
            · have e5 : decide (4096 < (((l.getD k ⟨#[]⟩).size : Nat) : Int)) = true := by rw [decide_eq_true_eq]; omega
              have hz : Hid (alikeL l = false) := Lib.hid (alike_false hlt (by omega))
              obtain ⟨rk, hrk⟩ : ∃ r, l.getD k ⟨#[]⟩ = r := ⟨_, rfl⟩
              obtain ⟨r0, hr0⟩ : ∃ r, l.getD 0 ⟨#[]⟩ = r := ⟨_, rfl⟩
              rw [hrk] at hc hmk e3 e4 e5
              rw [hr0] at hc0 hm0 e3
              clear hj hrk hr0 he h1 h2
              go_wp2
              go_ret
              exact ⟨by rw [hz.out]; rfl, rfl⟩
          · have e4 : decide ((((l.getD k ⟨#[]⟩).size : Nat) : Int) < 1) = true := by rw [decide_eq_true_eq]; omega
            have hz : Hid (alikeL l = false) := Lib.hid (alike_false hlt (by omega))
            obtain ⟨rk, hrk⟩ : ∃ r, l.getD k ⟨#[]⟩ = r := ⟨_, rfl⟩
            obtain ⟨r0, hr0⟩ : ∃ r, l.getD 0 ⟨#[]⟩ = r := ⟨_, rfl⟩
            rw [hrk] at hc hmk e3 e4
            rw [hr0] at hc0 hm0 e3
            clear hj hrk hr0 he h1
            go_wp2
            go_ret
            exact ⟨by rw [hz.out]; rfl, rfl⟩
        · have e3 : ((((l.getD k ⟨#[]⟩).size : Nat) : Int) != (((l.getD 0 ⟨#[]⟩).size : Nat) : Int)) = true := by rw [bne_iff_ne]; omega
          have hz : Hid (alikeL l = false) := Lib.hid (alike_false hlt (by omega))
          obtain ⟨rk, hrk⟩ : ∃ r, l.getD k ⟨#[]⟩ = r := ⟨_, rfl⟩
          obtain ⟨r0, hr0⟩ : ∃ r, l.getD 0 ⟨#[]⟩ = r := ⟨_, rfl⟩
          rw [hrk] at hc hmk e3
          rw [hr0] at hc0 hm0 e3
          clear hj hrk hr0 he
          go_wp2
          go_ret
          exact ⟨by rw [hz.out]; rfl, rfl⟩
      · have e : k = l.length := by omega
        subst e
        have hz : Hid (alikeL l = true) := Lib.hid (alike_true hj.out)
        go_wp2
        go_ret
        exact ⟨by rw [hz.out]; rfl, rfl⟩
set_option maxRecDepth 100000 in
set_option maxHeartbeats 1000000 in
theorem grow_nil (n : Nat) (w : World) (h1 : 1 ≤ n) (h2 : n ≤ 1000) :
    Calls Tryd.prog 57 #[.slice none 0 0, .int .i64 (n : Int)] w (GivesT w []) := by
  obtain ⟨i0, hi, hz0, hz1, hz2⟩ := info_parts Tryd.infoS
  obtain ⟨c, cur, hc1, hc2, hcs, hap⟩ := run_append_made (P := Tryd.prog) (T := 22) (I := 3) Tryd.underlying22 Tryd.underlying3 hi hz0 hz1 hz2 rfl 22 w n h1 h2 (by decide)
  have hcs' := Lib.hid hcs
  clear hcs
  go_enter Tryd.func57, Tryd.ntmps57
  go_wp2_with (at_builtin; refine wpList_append_run2 hap _ _ rfl rfl rfl rfl rfl ?_)
  go_ret
  refine ⟨.slice (some ⟨w.heap.size, 0, none⟩) 0 c, rfl, ⟨⟨rfl, .inr ⟨w.heap.size, c, cur, rfl, Nat.le_refl _, heap_alloc_new _ _, Nat.zero_le _, hc2, by rw [hcs'.out, Nat.mul_one], by simp⟩⟩⟩, ((Below.refl _ w).drew).alloc (Nat.le_refl _) _⟩
set_option maxRecDepth 100000 in
set_option maxHeartbeats 1000000 in
theorem concat_two (va vb : Value) (a b : List ByteArray) (g cap : Nat) (w : World) (hg : g < w.heap.size) (h0 : w.cell? ⟨g, 0, none⟩ = some va) (h1 : w.cell? ⟨g, 1, none⟩ = some vb) (hA : Reads w va (tx a)) (hB : Reads w vb (tx b)) (la : 1 ≤ a.length) (lb : a.length ≤ 100) (lc : b.length ≤ 100) :
    Calls Tryd.prog 52 #[.slice (some ⟨g, 0, none⟩) 2 cap] w (GivesT w (a ++ b)) := by
  obtain ⟨i0, hi, hz0, hz1, hz2⟩ := info_parts Tryd.infoS
  have lea := fun W => hA.len_run (P := Tryd.prog) Tryd.underlying22 3 W
  have leb := fun W => hB.len_run (P := Tryd.prog) Tryd.underlying22 3 W
  rw [List.length_map] at lea leb
  have hgr := fun W => grow_nil (a.length + b.length) W (by omega) (by omega)
  rw [show ((a.length + b.length : Nat) : Int) = (a.length : Int) + (b.length : Int) by push_cast; rfl] at hgr
  go_enter Tryd.func52, Tryd.ntmps52
  go_wp2_with (fail)
  go_loopw [3, 5, 11] (fun z _ i wr => w = wr ∧ ((i = .int .i64 0 ∧ z = .int .i64 0) ∨ (i = .int .i64 1 ∧ z = .int .i64 (a.length : Int)) ∨ (i = .int .i64 2 ∧ z = .int .i64 ((a.length : Int) + (b.length : Int))))) (fun _ _ i _ => 2 - (intOf i).toNat)
  case atStart => exact ⟨rfl, .inl ⟨rfl, rfl⟩⟩
  case round =>
    obtain ⟨rfl, hrel⟩ := hrel
    rcases hrel with ⟨rfl, rfl⟩ | ⟨rfl, rfl⟩ | ⟨rfl, rfl⟩
    · go_wp2_with (fail)
      go_roundw
      case rel => exact ⟨(by first | rfl | trivial), .inr (.inl ⟨rfl, by go_num⟩)⟩
      case measure => simp [intOf]
    · go_wp2_with (fail)
      go_roundw
      case rel => exact ⟨(by first | rfl | trivial), .inr (.inr ⟨rfl, rfl⟩)⟩
      case measure => simp [intOf]
    · go_wp2_with (fail)
      refine (hgr _).mono ?_
      rintro e w1 ⟨v1, rfl, o1, b1⟩
      have hA1 := hA.below b1
      obtain ⟨v2, w2, hap2, o2, b2, k2⟩ := Own.pushAll (P := Tryd.prog) (T := 22) Tryd.underlying22 hi hz0 hz1 hz2 rfl o1 hA1 (tx_one a) b1.size (by simp; omega) (by simp; omega)
      have b12 := b1.trans b2
      have hB2 := hB.below b12
      obtain ⟨v3, w3, hap3, o3, b3, k3⟩ := Own.pushAll (P := Tryd.prog) (T := 22) Tryd.underlying22 hi hz0 hz1 hz2 rfl o2 hB2 (tx_one b) b12.size (by simp; omega) (by simp; omega)
      have c0 : w1.cell? ⟨g, 0, none⟩ = some va := by rw [b1.cell (p := ⟨g, 0, none⟩) hg]; exact h0
      have c1 : w2.cell? ⟨g, 1, none⟩ = some vb := by rw [b12.cell (p := ⟨g, 1, none⟩) hg]; exact h1
      go_wp2_with (fail)
      go_loopw [6, 8, 27] (fun u _ i wr => (i = .int .i64 0 ∧ u = v1 ∧ w1 = wr) ∨ (i = .int .i64 1 ∧ u = v2 ∧ w2 = wr) ∨ (i = .int .i64 2 ∧ u = v3 ∧ w3 = wr)) (fun _ _ i _ => 2 - (intOf i).toNat)
      case atStart => exact .inl ⟨rfl, rfl, rfl⟩
      case round =>
        rcases hrel with ⟨rfl, rfl, rfl⟩ | ⟨rfl, rfl, rfl⟩ | ⟨rfl, rfl, rfl⟩
        · go_wp2_with (at_builtin; refine wpList_append_run2 hap2 _ _ rfl rfl rfl rfl rfl ?_)
          go_roundw
          case rel => exact .inr (.inl ⟨rfl, rfl, (by first | rfl | trivial)⟩)
          case measure => simp [intOf]
        · go_wp2_with (at_builtin; refine wpList_append_run2 hap3 _ _ rfl rfl rfl rfl rfl ?_)
          go_roundw
          case rel => exact .inr (.inr ⟨rfl, rfl, (by first | rfl | trivial)⟩)
          case measure => simp [intOf]
        · go_wp2_with (fail)
          go_ret
          refine ⟨_, rfl, ?_, b12.trans b3⟩
          rw [show tx [] ++ tx a ++ tx b = tx (a ++ b) by simp [tx]] at o3
          exact o3
end Go.Proofs.YtcmnojflllcdfaaDoor
