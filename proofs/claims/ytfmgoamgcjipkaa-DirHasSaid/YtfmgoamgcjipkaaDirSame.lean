/- dir's laws: Same. -/
import Derived.Test.YtfmgoamgcjipkaaDirGet
namespace Go.Proofs.Ytfmgoamgcjipkaa
open Go.RowKit
set_option linter.unusedVariables false
set_option linter.unusedSimpArgs false
open Dr

theorem eql_vol (w : World) (x y : Vol) :
    (Op.equalIn 10000 24 (.agg #[.string x.n, .int .i64 x.s, .int .i64 x.r]) (.agg #[.string y.n, .int .i64 y.s, .int .i64 y.r])).run Try.prog w = .ok (decide (x = y)) w := by
  have hS : Try.prog.underlying 24 = some (.struct (Try.prog.fieldsOf 24)) := by kernel_rfl
  have hp : Try.prog.stoodInHeld 24 = false := by kernel_rfl
  have e : decide (x = y) = (x.n.toList == y.n.toList && (x.s == y.s && x.r == y.r)) := by
    rw [toL_eq, Bool.eq_iff_iff]
    simp only [decide_eq_true_eq, Bool.and_eq_true, beq_iff_eq]
    exact ⟨fun h => by rw [h]; exact ⟨rfl, rfl, rfl⟩, fun h => vol_ext h.1 h.2.1 h.2.2⟩
  rw [e, show (10000 : Nat) = 9999 + 1 from rfl, run_equalIn_agg w 9999 24 _ _ hS hp]
  simp only [Program.fieldsOf, Try.underlying24]
  go_simp
  by_cases h1 : x.n.toList = y.n.toList <;> by_cases h2 : x.s = y.s <;> by_cases h3 : x.r = y.r <;> simp [h1, h2, h3]
theorem eql_vol_guard : Try.prog.eqGuardType Try.prog.depth 24 = false := by kernel_rfl
theorem at_ext {l m : List Vol} (hl : l.length = m.length) (h : ∀ j, j < l.length → at_ l j = at_ m j) : l = m := by
  apply List.ext_getElem hl
  intro i h1 h2
  rw [← at_get h1, ← at_get h2]; exact h i h1
set_option maxRecDepth 100000 in
set_option maxHeartbeats 4000000 in
theorem same_any (v u : Value) (l m : List Vol) (w : World) (hl : ReadsE volE w v l) (hm : ReadsE volE w u m) (h1 : l.length ≤ 140737488351232) : Calls Try.prog 20 #[v, u] w (Tells w (.bool (decide (l = m)))) := by
  obtain ⟨a, cap, rfl, cl⟩ := items3 hl
  obtain ⟨b, cap', rfl, cm⟩ := items3 hm
  clear hl hm
  by_cases hlen : l.length = m.length
  rotate_left
  · have hz : Hid (decide (l = m) = false) := Lib.hid (decide_eq_false fun e => hlen (by rw [e]))
    have t1 : (((l.length : Nat) : Int) != ((m.length : Nat) : Int)) = true := by rw [bne_iff_ne]; omega
    have t2 : (l.length != m.length) = true := by rw [bne_iff_ne]; exact hlen
    clear hlen
    go_enter Try.func20, Try.ntmps20
    go_wp2
    go_ret
    exact ⟨by rw [hz.out]; rfl, Below.refl _ _⟩
  have hlenH := Lib.hid hlen
  rw [← hlen] at cm
  rw [← hlen]
  clear hlen
  go_enter Try.func20, Try.ntmps20
  go_wp2
  go_loopw [5] (fun i wr => ∃ k : Nat, k ≤ l.length ∧ i = .int .i64 (k : Int) ∧ (∀ j, j < k → at_ l j = at_ m j) ∧ Below w.heap.size w wr) (fun i _ => l.length - (intOf i).toNat)
  case atStart => exact ⟨0, by omega, rfl, (fun j hj => absurd hj (Nat.not_lt_zero _)), Below.refl _ _⟩
  case round =>
    obtain ⟨k, hk, rfl, hc, hB⟩ := hrel
    rename World => wr
    have hBs := hB.size
    by_cases hlt : k < l.length
    · have x1 : (k : Int) < (l.length : Int) := by omega
      obtain ⟨cb, co, rfl, hcb, hcl⟩ := cl k hlt
      obtain ⟨db, do_, rfl, hdb, hdl⟩ := cm k hlt
      obtain ⟨c0, c1, c2⟩ := hcl wr hB
      obtain ⟨d0, d1, d2⟩ := hdl wr hB
      have e0 : wr.drew.cell? ⟨cb, co + k * 3, none⟩ = _ := c0
      have e1 : wr.drew.cell? ⟨cb, co + k * 3 + 1, none⟩ = _ := c1
      have e2 : wr.drew.cell? ⟨cb, co + k * 3 + 2, none⟩ = _ := c2
      have g0 : wr.drew.cell? ⟨db, do_ + k * 3, none⟩ = _ := d0
      have g1 : wr.drew.cell? ⟨db, do_ + k * 3 + 1, none⟩ = _ := d1
      have g2 : wr.drew.cell? ⟨db, do_ + k * 3 + 2, none⟩ = _ := d2
      have hq := fun W => eql_vol W (at_ l k) (at_ m k)
      have hg := eql_vol_guard
      cases hb : decide (at_ l k = at_ m k) with
      | true =>
        have hz : ∀ j, j < k + 1 → at_ l j = at_ m j := fun j hj => by
          rcases Nat.lt_succ_iff_lt_or_eq.1 hj with h1 | rfl
          · exact hc j h1
          · exact of_decide_eq_true hb
        have hzH := Lib.hid hz
        rw [hb] at hq
        clear hz hc hb
        generalize at_ l k = x at *
        generalize at_ m k = y at *
        go_wp2_with (fail)
        go_quiet (fail)
        have hB3 := below_c hB (drew_below wr nq)
        go_wp2_with (fail)
        go_roundw
        case rel => exact ⟨k + 1, by omega, by go_num, hzH.out, hB3⟩
        case measure => simp [intOf]; omega
      | false =>
        have hz : Hid (decide (l = m) = false) := Lib.hid (decide_eq_false fun e => of_decide_eq_false hb (by rw [e]))
        rw [hb] at hq
        clear hc hb
        generalize at_ l k = x at *
        generalize at_ m k = y at *
        go_wp2_with (fail)
        go_quiet (fail)
        have hB3 := below_c hB (drew_below wr nq)
        go_wp2_with (fail)
        go_ret
        exact ⟨by rw [hz.out]; rfl, hB3⟩
    · have x1 : ¬ ((k : Int) < (l.length : Int)) := by omega
      obtain rfl : k = l.length := by omega
      have hz : Hid (decide (l = m) = true) := Lib.hid (decide_eq_true (at_ext hlenH.out hc))
      clear hc
      go_wp2_with (fail)
      go_ret
      exact ⟨by rw [hz.out]; rfl, hB⟩
end Go.Proofs.Ytfmgoamgcjipkaa
