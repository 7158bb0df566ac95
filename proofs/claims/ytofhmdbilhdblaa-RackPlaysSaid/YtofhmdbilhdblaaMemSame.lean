/- Texts compared. -/
import Derived.Test.YtofhmdbilhdblaaMemS
import Derived.Test.YtofhmdbilhdblaaSl4
namespace Go.Proofs.Ytofhmdbilhdblaa
open Go.RowKit
set_option linter.unusedVariables false
set_option linter.unusedSimpArgs false

/-- A slice that reads as texts. -/
theorem toB_ne {a b : ByteArray} (h : ¬ a = b) : (a.toList == b.toList) = false := by
  rw [beq_eq_false_iff_ne]
  intro e
  exact h (by rw [Lib.toList_data, Lib.toList_data] at e; exact Go.WideShapes.bytes_inj e)
def SaysB (w : World) (b : Bool) (e : Ending) (w' : World) : Prop := e = .returned (.bool b) ∧ Below w.heap.size w w' ∧ w'.heap = w.heap
def Quiet (w w' : World) : Prop := Below w.heap.size w w' ∧ w'.heap = w.heap
theorem Quiet.refl (w : World) : Quiet w w := ⟨Below.refl _ _, rfl⟩
theorem Quiet.drewN {w w' : World} (h : Quiet w w') (n : Nat) : Quiet w (w'.drewN n) := ⟨h.1.trans ⟨rfl, rfl, rfl, Nat.le_refl _, fun _ _ => rfl⟩, h.2⟩
theorem Quiet.cell {w w' : World} (h : Quiet w w') (a : Addr) : w'.cell? a = w.cell? a := by simp only [World.cell?, h.2]
set_option maxRecDepth 100000 in
set_option maxHeartbeats 1000000 in
theorem same_any (va vb : Value) (a b : List ByteArray) (w : World) (hA : Reads w va (a.map .string)) (hB : Reads w vb (b.map .string)) (fan : a.length ≤ 140737488355328) (fbn : b.length ≤ 140737488355328) :
    Calls Try.prog 34 #[va, vb] w (SaysB w (decide (a = b))) := by
  have la := fun W => hA.len_run (P := Try.prog) Try.underlying47 3 W
  have lb := fun W => hB.len_run (P := Try.prog) Try.underlying47 3 W
  rw [List.length_map] at la lb
  by_cases h1 : a.length = b.length
  · have t1 : (((a.length : Nat) : Int) != ((b.length : Nat) : Int)) = false := by rw [h1]; exact bne_self_eq_false _
    have h1' := Lib.hid h1
    obtain ⟨pa, ca, rfl, cellA⟩ := hA.items
    obtain ⟨pb, cb, rfl, cellB⟩ := hB.items
    clear h1 la lb hA hB
    go_enter Try.func34, Try.ntmps34
    go_wp2_with (fail)
    go_loopw [5] (fun i wr => ∃ k : Nat, k ≤ a.length ∧ i = .int .i64 (k : Int) ∧ Quiet w wr ∧ Hid (∀ j (h1 : j < a.length) (h2 : j < b.length), j < k → a[j] = b[j])) (fun i _ => a.length - (intOf i).toNat)
    case atStart => exact ⟨0, by omega, rfl, Quiet.refl _, Lib.hid (fun j _ _ hj => by omega)⟩
    case round =>
      obtain ⟨k, hk, rfl, hq, hj⟩ := hrel
      rename World => wr
      by_cases hlt : k < a.length
      · have hltb : k < b.length := by have := h1'.out; omega
        obtain ⟨xb, xo, rfl, hxb, hxc⟩ := cellA k hlt
        obtain ⟨yb, yo, rfl, hyb, hyc⟩ := cellB k hltb
        have hca : wr.cell? ⟨xb, xo + k, none⟩ = some (.string a[k]) := by rw [hq.cell]; exact hxc
        have hcb : wr.cell? ⟨yb, yo + k, none⟩ = some (.string b[k]) := by rw [hq.cell]; exact hyc
        have b1 : (k : Int) < (a.length : Int) := by omega
        have b2 : (k : Int) < (b.length : Int) := by omega
        clear hxc hyc
        by_cases he : a[k] = b[k]
        · have hj' : Hid (∀ j (h1 : j < a.length) (h2 : j < b.length), j < k + 1 → a[j] = b[j]) := Lib.hid (fun j h1 h2 hjk => by
            by_cases e : j = k
            · subst e; exact he
            · exact hj.out j h1 h2 (by omega))
          rw [← he] at hcb
          clear he hj
          generalize a[k] = rk at *
          go_wp2
          go_quiet (fail)
          go_wp2
          go_roundw
          case rel => exact ⟨k + 1, by omega, by go_num, hq.drewN _, hj'⟩
          case measure => simp [intOf]; omega
        · have hz : Hid (decide (a = b) = false) := Lib.hid (by
            rw [decide_eq_false_iff_not]
            intro e; subst e; exact he rfl)
          have tq := toB_ne he
          have tq' : (a[k].toList != b[k].toList) = true := by rw [bne, tq]; rfl
          clear he hj
          generalize a[k] = rk at *
          generalize b[k] = qk at *
          go_wp2
          go_quiet (fail)
          go_wp2
          go_ret
          exact ⟨by rw [hz.out]; rfl, (hq.drewN _).1, (hq.drewN _).2⟩
      · have hz : Hid (decide (a = b) = true) := Lib.hid (by
          rw [decide_eq_true_eq]
          exact List.ext_getElem h1'.out fun i h2 h3 => hj.out i h2 h3 (by omega))
        obtain rfl : k = a.length := by omega
        clear hj
        go_wp2
        go_ret
        exact ⟨by rw [hz.out]; rfl, hq.1, hq.2⟩
  · have t1 : (((a.length : Nat) : Int) != ((b.length : Nat) : Int)) = true := by rw [bne_iff_ne]; omega
    have hz : Hid (decide (a = b) = false) := Lib.hid (by
      rw [decide_eq_false_iff_not]
      intro e; exact h1 (by rw [e]))
    clear h1
    go_enter Try.func34, Try.ntmps34
    go_wp2
    go_ret
    exact ⟨by rw [hz.out]; rfl, Below.refl _ _, rfl⟩
end Go.Proofs.Ytofhmdbilhdblaa
