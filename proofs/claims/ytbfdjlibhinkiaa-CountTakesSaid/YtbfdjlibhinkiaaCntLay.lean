/- count: tables as texts; texts compared. -/
import Derived.Test.YtbfdjlibhinkiaaCntWalk1
import Derived.Test.YtbfdjlibhinkiaaSl4
import Derived.Deep.RegionHeld3
import Derived.WideShapes
import Derived.WalkLawsBesides
namespace Go.Proofs.Ytbfdjlibhinkiaa
open Go.RowKit
set_option linter.unusedVariables false
set_option linter.unusedSimpArgs false

def bytesC (C : Nat → Nat) (a : Nat) : List UInt8 := (List.range 120).map fun i => UInt8.ofNat (C (a + i))
def layS (C : Nat → Nat) (a : Nat) : ByteArray := lineOf (bytesC C a)
theorem bytesC_len (C : Nat → Nat) (a : Nat) : (bytesC C a).length = 120 := by simp [bytesC]
theorem lay_conv {g n : Nat} {C : Nat → Nat} {w : World} (h : TabAt w g n C) (hS : Small n C) (a cap : Nat) (ha : a + 120 ≤ 240) :
    (convert 48 9 (.slice (some ⟨g, 1 + a, none⟩) 120 cap)).run Try.prog w = .ok (.string (layS C a)) w := by
  have := run_convert_bytes_back (P := Try.prog) w 48 9 5 ⟨g, 1 + a, none⟩ cap (bytesC C a) Try.underlying48 Try.underlying5 Try.underlying9 (fun j hj => by
    rw [bytesC_len] at hj
    rw [addr_at, Nat.add_assoc, h.c (a + j) (by omega)]
    have hc := hS.c (a + j)
    have : ((UInt8.ofNat (C (a + j))).toNat) = C (a + j) := by simp; omega
    simp [bytesC, this])
  rw [bytesC_len] at this
  exact this
def LaysT (w : World) (C : Nat → Nat) (e : Ending) (w' : World) : Prop := e = .returned (.slice (some ⟨w.heap.size, 0, none⟩) 2 2) ∧ Below w.heap.size w w' ∧ Reads w' (.slice (some ⟨w.heap.size, 0, none⟩) 2 2) [.string (layS C 0), .string (layS C 120)]
set_option maxRecDepth 100000 in
set_option maxHeartbeats 2000000 in
theorem lay_any (g n : Nat) (C : Nat → Nat) (w : World) (h : TabAt w g n C) (hS : Small n C) : Calls Try.prog 28 #[.pointer (some ⟨g, 0, none⟩)] w (LaysT w C) := by
  have hk : ∀ W, TabAt W g n C → ((convert 48 9 (.slice (some ⟨g, 1, none⟩) 120 240)).run Try.prog W = .ok (.string (layS C 0)) W) ∧ ((convert 48 9 (.slice (some ⟨g, 121, none⟩) 120 120)).run Try.prog W = .ok (.string (layS C 120)) W) := fun W hW => ⟨lay_conv hW hS 0 240 (by omega), lay_conv hW hS 120 120 (by omega)⟩
  generalize hs1 : layS C 0 = s1 at *
  generalize hs2 : layS C 120 = s2 at *
  have HS1 := Lib.hid hs1
  have HS2 := Lib.hid hs2
  clear hs1 hs2
  have j1 : ∀ W : World, (Instr.sliceAt 53 (.pointer (some ⟨g, 1, none⟩)) none (some (.int .i64 120)) none).run Try.prog W = .ok (.slice (some ⟨g, 1, none⟩) 120 240) W := fun W => by
    simp [Instr.sliceAt, Instr.slice, Instr.sureAddr, run_underlying Try.underlying53, Instr.sliceBounds, Instr.sliceBound, asIntOf, asAddr]
    exact addr_at _ _ _
  have j2 : ∀ W : World, (Instr.sliceAt 53 (.pointer (some ⟨g, 1, none⟩)) (some (.int .i64 120)) none none).run Try.prog W = .ok (.slice (some ⟨g, 121, none⟩) 120 120) W := fun W => by
    simp [Instr.sliceAt, Instr.slice, Instr.sureAddr, run_underlying Try.underlying53, Instr.sliceBounds, Instr.sliceBound, asIntOf, asAddr]
    exact addr_at _ _ _
  go_enter Try.func28, Try.ntmps28
  go_wp2_with (fail)
  go_region_held3 (fun W => ((convert 48 9 (.slice (some ⟨g, 1, none⟩) 120 240)).run Try.prog W = .ok (.string s1) W) ∧ ((convert 48 9 (.slice (some ⟨g, 121, none⟩) 120 120)).run Try.prog W = .ok (.string s2) W)) (first | exact hk _ h.drew | exact hk _ (h.drew.below ((Below.refl _ _).alloc (Nat.le_refl _) _) h.drew.lt) | exact hk _ h) (fail)
  all_goals
    go_wp2_with (fail)
    go_ret
    refine ⟨rfl, ((Below.refl _ _).alloc (Nat.le_refl _) _).trans ⟨rfl, rfl, rfl, Nat.le_refl _, fun _ _ => rfl⟩, ?_⟩
    rw [HS1.out, HS2.out]
    refine .inr ⟨w.heap.size, 0, 2, rfl, by show w.heap.size < (w.alloc _).heap.size; simp, fun i hi => ?_⟩
    show (w.alloc _).cell? _ = _
    rw [Nat.zero_add, World.cell?_alloc_mark]
    rcases (by simp at hi; omega : i = 0 ∨ i = 1) with rfl | rfl <;> rfl
/-- A slice that reads as texts. -/
theorem toB_ne {a b : ByteArray} (h : ¬ a = b) : (a.toList == b.toList) = false := by
  rw [beq_eq_false_iff_ne]
  intro e
  exact h (by rw [Lib.toList_data, Lib.toList_data] at e; exact Go.WideShapes.bytes_inj e)
def SaysB (w : World) (b : Bool) (e : Ending) (w' : World) : Prop := e = .returned (.bool b) ∧ Below w.heap.size w w' ∧ w'.heap = w.heap
def Quiet (w w' : World) : Prop := Below w.heap.size w w' ∧ w'.heap = w.heap
theorem Quiet.refl (w : World) : Quiet w w := ⟨Below.refl _ _, rfl⟩
theorem Quiet.drewN {w w' : World} (h : Quiet w w') (n : Nat) : Quiet w (w'.drewN n) := ⟨h.1.trans ⟨rfl, rfl, rfl, Nat.le_refl _, fun _ _ => rfl⟩, h.2⟩
theorem Quiet.cell {w w' : World} (h : Quiet w w') (a : Addr) : w'.cell? a = w.cell? a := by simp only [World.cell?, h.2]
set_option maxRecDepth 100000 in
set_option maxHeartbeats 1000000 in
theorem same_any (va vb : Value) (a b : List ByteArray) (w : World) (hA : Reads w va (a.map .string)) (hB : Reads w vb (b.map .string)) (fan : a.length ≤ 140737488355328) (fbn : b.length ≤ 140737488355328) :
    Calls Try.prog 27 #[va, vb] w (SaysB w (decide (a = b))) := by
  have la := fun W => hA.len_run (P := Try.prog) Try.underlying42 3 W
  have lb := fun W => hB.len_run (P := Try.prog) Try.underlying42 3 W
  rw [List.length_map] at la lb
  by_cases h1 : a.length = b.length
  · have t1 : (((a.length : Nat) : Int) != ((b.length : Nat) : Int)) = false := by rw [h1]; exact bne_self_eq_false _
    have h1' := Lib.hid h1
    obtain ⟨pa, ca, rfl, cellA⟩ := hA.items
    obtain ⟨pb, cb, rfl, cellB⟩ := hB.items
    clear h1 la lb hA hB
    go_enter Try.func27, Try.ntmps27
    go_wp2_with (fail)
    go_loopw [5] (fun i wr => ∃ k : Nat, k ≤ a.length ∧ i = .int .i64 (k : Int) ∧ Quiet w wr ∧ Hid (∀ j (h1 : j < a.length) (h2 : j < b.length), j < k → a[j] = b[j])) (fun i _ => a.length - (intOf i).toNat)
    case atStart => exact ⟨0, by omega, rfl, Quiet.refl _, Lib.hid (fun j _ _ hj => by omega)⟩
    case round =>
      obtain ⟨k, hk, rfl, hq, hj⟩ := hrel
      rename World => wr
      by_cases hlt : k < a.length
      · have hltb : k < b.length := by have := h1'.out; omega
        obtain ⟨xb, xo, rfl, hxb, hxc⟩ := cellA k hlt
        obtain ⟨yb, yo, rfl, hyb, hyc⟩ := cellB k hltb
        have hca : wr.cell? ⟨xb, xo + k, none⟩ = some (.string a[k]) := by rw [hq.cell]; exact hxc
        have hcb : wr.cell? ⟨yb, yo + k, none⟩ = some (.string b[k]) := by rw [hq.cell]; exact hyc
        have b1 : (k : Int) < (a.length : Int) := by omega
        have b2 : (k : Int) < (b.length : Int) := by omega
        clear hxc hyc
        by_cases he : a[k] = b[k]
        · have hj' : Hid (∀ j (h1 : j < a.length) (h2 : j < b.length), j < k + 1 → a[j] = b[j]) := Lib.hid (fun j h1 h2 hjk => by
            by_cases e : j = k
            · subst e; exact he
            · exact hj.out j h1 h2 (by omega))
          rw [← he] at hcb
          clear he hj
          generalize a[k] = rk at *
          go_wp2
          go_quiet (fail)
          go_wp2
          go_roundw
          case rel => exact ⟨k + 1, by omega, by go_num, hq.drewN _, hj'⟩
          case measure => simp [intOf]; omega
        · have hz : Hid (decide (a = b) = false) := Lib.hid (by
            rw [decide_eq_false_iff_not]
            intro e; subst e; exact he rfl)
          have tq := toB_ne he
          have tq' : (a[k].toList != b[k].toList) = true := by rw [bne, tq]; rfl
          clear he hj
          generalize a[k] = rk at *
          generalize b[k] = qk at *
          go_wp2
          go_quiet (fail)
          go_wp2
          go_ret
          exact ⟨by rw [hz.out]; rfl, (hq.drewN _).1, (hq.drewN _).2⟩
      · have hz : Hid (decide (a = b) = true) := Lib.hid (by
          rw [decide_eq_true_eq]
          exact List.ext_getElem h1'.out fun i h2 h3 => hj.out i h2 h3 (by omega))
        obtain rfl : k = a.length := by omega
        clear hj
        go_wp2
        go_ret
        exact ⟨by rw [hz.out]; rfl, hq.1, hq.2⟩
  · have t1 : (((a.length : Nat) : Int) != ((b.length : Nat) : Int)) = true := by rw [bne_iff_ne]; omega
    have hz : Hid (decide (a = b) = false) := Lib.hid (by
      rw [decide_eq_false_iff_not]
      intro e; exact h1 (by rw [e]))
    clear h1
    go_enter Try.func27, Try.ntmps27
    go_wp2
    go_ret
    exact ⟨by rw [hz.out]; rfl, Below.refl _ _, rfl⟩
set_option maxRecDepth 100000 in
set_option maxHeartbeats 1000000 in
theorem equal_any (va vb : Value) (a b : List ByteArray) (w : World) (hA : Reads w va (a.map .string)) (hB : Reads w vb (b.map .string)) (fan : a.length ≤ 140737488355328) (fbn : b.length ≤ 140737488355328) :
    Calls Try.prog 34 #[va, vb] w (SaysB w (decide (a = b))) := by
  have la := fun W => hA.len_run (P := Try.prog) Try.underlying42 3 W
  have lb := fun W => hB.len_run (P := Try.prog) Try.underlying42 3 W
  rw [List.length_map] at la lb
  by_cases h1 : a.length = b.length
  · have t1 : (((a.length : Nat) : Int) != ((b.length : Nat) : Int)) = false := by rw [h1]; exact bne_self_eq_false _
    have h1' := Lib.hid h1
    obtain ⟨pa, ca, rfl, cellA⟩ := hA.items
    obtain ⟨pb, cb, rfl, cellB⟩ := hB.items
    clear h1 la lb hA hB
    go_enter Try.func34, Try.ntmps34
    go_wp2_with (fail)
    go_loopw [13] (fun i wr => ∃ k : Nat, k ≤ a.length ∧ i = .int .i64 (k : Int) ∧ Quiet w wr ∧ Hid (∀ j (h1 : j < a.length) (h2 : j < b.length), j < k → a[j] = b[j])) (fun i _ => a.length - (intOf i).toNat)
    case atStart => exact ⟨0, by omega, rfl, Quiet.refl _, Lib.hid (fun j _ _ hj => by omega)⟩
    case round =>
      obtain ⟨k, hk, rfl, hq, hj⟩ := hrel
      rename World => wr
      by_cases hlt : k < a.length
      · have hltb : k < b.length := by have := h1'.out; omega
        obtain ⟨xb, xo, rfl, hxb, hxc⟩ := cellA k hlt
        obtain ⟨yb, yo, rfl, hyb, hyc⟩ := cellB k hltb
        have hca : wr.cell? ⟨xb, xo + k, none⟩ = some (.string a[k]) := by rw [hq.cell]; exact hxc
        have hcb : wr.cell? ⟨yb, yo + k, none⟩ = some (.string b[k]) := by rw [hq.cell]; exact hyc
        have b1 : (k : Int) < (a.length : Int) := by omega
        have b2 : (k : Int) < (b.length : Int) := by omega
        clear hxc hyc
        by_cases he : a[k] = b[k]
        · have hj' : Hid (∀ j (h1 : j < a.length) (h2 : j < b.length), j < k + 1 → a[j] = b[j]) := Lib.hid (fun j h1 h2 hjk => by
            by_cases e : j = k
            · subst e; exact he
            · exact hj.out j h1 h2 (by omega))
          rw [← he] at hcb
          clear he hj
          generalize a[k] = rk at *
          go_wp2
          go_quiet (fail)
          go_wp2
          go_roundw
          case rel => exact ⟨k + 1, by omega, by go_num, hq.drewN _, hj'⟩
          case measure => simp [intOf]; omega
        · have hz : Hid (decide (a = b) = false) := Lib.hid (by
            rw [decide_eq_false_iff_not]
            intro e; subst e; exact he rfl)
          have tq := toB_ne he
          have tq' : (a[k].toList != b[k].toList) = true := by rw [bne, tq]; rfl
          clear he hj
          generalize a[k] = rk at *
          generalize b[k] = qk at *
          go_wp2
          go_quiet (fail)
          go_wp2
          go_ret
          exact ⟨by rw [hz.out]; rfl, (hq.drewN _).1, (hq.drewN _).2⟩
      · have hz : Hid (decide (a = b) = true) := Lib.hid (by
          rw [decide_eq_true_eq]
          exact List.ext_getElem h1'.out fun i h2 h3 => hj.out i h2 h3 (by omega))
        obtain rfl : k = a.length := by omega
        clear hj
        go_wp2
        go_ret
        exact ⟨by rw [hz.out]; rfl, hq.1, hq.2⟩
  · have t1 : (((a.length : Nat) : Int) != ((b.length : Nat) : Int)) = true := by rw [bne_iff_ne]; omega
    have hz : Hid (decide (a = b) = false) := Lib.hid (by
      rw [decide_eq_false_iff_not]
      intro e; exact h1 (by rw [e]))
    clear h1
    go_enter Try.func34, Try.ntmps34
    go_wp2
    go_ret
    exact ⟨by rw [hz.out]; rfl, Below.refl _ _, rfl⟩
def MakesT (w : World) (n : Nat) (C : Nat → Nat) (e : Ending) (w' : World) : Prop := e = .returned (.pointer (some ⟨w.heap.size, 0, none⟩)) ∧ Below w.heap.size w w' ∧ TabAt w' w.heap.size n C
theorem tab_isz (n : Nat) (C : Nat → Nat) : (Try.prog.info? 55).map (·.size) = some (tcs n C).size := by rw [tcs_size]; have := (zero_of_info tab_info).2; exact this
theorem tcs_one (n : Nat) (C : Nat → Nat) : (tcs n C).all (·.oneCell') = true := by
  simp [tcs, tcl, Value.oneCell']
set_option maxRecDepth 100000 in
set_option maxHeartbeats 1000000 in
theorem clone_any (g n : Nat) (C : Nat → Nat) (w : World) (h : TabAt w g n C) : Calls Try.prog 18 #[.pointer (some ⟨g, 0, none⟩)] w (MakesT w n C) := by
  have hz := (zero_of_info tab_info).1
  have hu : Hid (Try.prog.underlying 55 = some (.struct (Try.prog.fieldsOf 55))) := Lib.hid (by kernel_rfl)
  have hb := Lib.hid h.b
  have hi := Lib.hid (tab_isz n C)
  go_enter Try.func18, Try.ntmps18
  have hst := run_storeCells_new (P := Try.prog) w 55 (tcs 0 fun _ => 0) (tcs n C) (tab_isz n C) (by rw [tcs_size, tcs_size]) (tcs_one n C)
  have hs1 := tcs_size n C
  have hM := TabAt.made w n C
  go_wp2_with (with_reducible refine wpList_load_row rfl _ _ rfl g rfl _ (tcs n C) _ _ hb.out hu.out rfl hi.out ?_)
  go_ret
  exact ⟨rfl, (Below.refl _ _).alloc (Nat.le_refl _) _, hM⟩
end Go.Proofs.Ytbfdjlibhinkiaa
