/- label: the first calls, walked. -/
import Derived.Test.YtaopknddpagjeaaDoorLabRef
import Derived.Test.YtaopknddpagjeaaDoorLabNext
import Derived.Test.YtaopknddpagjeaaDoorLabRNext
import Derived.Test.YtaopknddpagjeaaDoorLabCho
import Derived.Test.YtaopknddpagjeaaDoorLabRCho
import Derived.Test.YtaopknddpagjeaaDoorLabPut
import Derived.Test.YtaopknddpagjeaaDoorLabWalk4
import Derived.Deep.Cut
namespace Go.Proofs.YtaopknddpagjeaaDoor
open Go.RowKit
set_option linter.unusedVariables false
set_option linter.unusedSimpArgs false
open Lb

theorem Reads.bools {w : World} {v : Value} {l : List Bool} (h : Reads w v (l.map .bool)) : ∃ a cap, v = .slice a l.length cap ∧ ∀ i, i < l.length → ∃ cb co, a = some ⟨cb, co, none⟩ ∧ cb < w.heap.size ∧ w.cell? ⟨cb, co + i, none⟩ = some (.bool (l.getD i false)) := by
  obtain ⟨a, cap, h1, h2⟩ := Reads.items h
  refine ⟨a, cap, h1, fun i hi => ?_⟩
  obtain ⟨cb, co, e1, e2, e3⟩ := h2 i hi
  exact ⟨cb, co, e1, e2, by rw [e3]; simp [List.getD_eq_getElem?_getD, hi]⟩
theorem blist_ext {l m : List Bool} (h : l.length = m.length) (hg : ∀ j, j < l.length → l.getD j false = m.getD j false) : l = m := by
  refine List.ext_getElem h fun i h1 h2 => ?_
  have := hg i h1
  simpa [List.getD_eq_getElem?_getD, h1, h2] using this
set_option maxRecDepth 100000 in
set_option maxHeartbeats 4000000 in
theorem bools_any (v u : Value) (l m : List Bool) (w : World) (hl : Reads w v (l.map .bool)) (hm : Reads w u (m.map .bool)) (h1 : l.length ≤ 140737488355328) :
    Calls Tryd.prog 25 #[v, u] w (Tells w (.bool (decide (l = m)))) := by
  obtain ⟨a, cap, rfl, cl⟩ := hl.bools
  obtain ⟨b, cap', rfl, cm⟩ := hm.bools
  clear hl hm
  by_cases hlen : l.length = m.length
  rotate_left
  · have hz : Hid (decide (l = m) = false) := Lib.hid (decide_eq_false fun e => hlen (by rw [e]))
    have t1 : (((l.length : Nat) : Int) != ((m.length : Nat) : Int)) = true := by rw [bne_iff_ne]; omega
    have t2 : (l.length != m.length) = true := by rw [bne_iff_ne]; exact hlen
    clear hlen cl cm
    go_enter Tryd.func25, Tryd.ntmps25
    go_wp2
    go_ret
    exact ⟨by rw [hz.out]; rfl, Below.refl _ _⟩
  have hlenH := Lib.hid hlen
  rw [← hlen] at cm
  rw [← hlen]
  clear hlen
  go_enter Tryd.func25, Tryd.ntmps25
  go_wp2
  go_loopw [5] (fun i wr => ∃ k : Nat, k ≤ l.length ∧ i = .int .i64 (k : Int) ∧ (∀ j, j < k → l.getD j false = m.getD j false) ∧ Below w.heap.size w wr) (fun i _ => l.length - (intOf i).toNat)
  case atStart => exact ⟨0, by omega, rfl, (fun j hj => absurd hj (Nat.not_lt_zero _)), Below.refl _ _⟩
  case round =>
    obtain ⟨k, hk, rfl, hc, hB⟩ := hrel
    rename World => wr
    have hBs := hB.size
    by_cases hlt : k < l.length
    · have x1 : (k : Int) < (l.length : Int) := by omega
      obtain ⟨cb, co, rfl, hcb, hcl⟩ := cl k hlt
      obtain ⟨db, do_, rfl, hdb, hdl⟩ := cm k hlt
      have d0 : wr.cell? ⟨cb, co + k, none⟩ = _ := (hB.cell (p := ⟨cb, co + k, none⟩) hcb).trans hcl
      have d1 : wr.cell? ⟨db, do_ + k, none⟩ = _ := (hB.cell (p := ⟨db, do_ + k, none⟩) hdb).trans hdl
      have e0 : wr.drew.cell? ⟨cb, co + k, none⟩ = _ := (hB.cell (p := ⟨cb, co + k, none⟩) hcb).trans hcl
      have e1 : wr.drew.cell? ⟨db, do_ + k, none⟩ = _ := (hB.cell (p := ⟨db, do_ + k, none⟩) hdb).trans hdl
      by_cases hb : l.getD k false = m.getD k false
      · have hzH : Hid (∀ j, j < k + 1 → l.getD j false = m.getD j false) := Lib.hid fun j hj => by
          rcases Nat.lt_succ_iff_lt_or_eq.1 hj with h1 | rfl
          · exact hc j h1
          · exact hb
        have t : (l.getD k false != m.getD k false) = false := by rw [hb]; simp
        clear hc hb hcl hdl
        generalize l.getD k false = x at *
        generalize m.getD k false = y at *
        obtain rfl : x = y := by simpa using t
        clear t
        cases x
        all_goals
          go_wp2_with (fail)
          go_quiet (fail)
          have hB3 := below_c hB (drew_below wr nq)
          go_wp2_with (fail)
          go_roundw
          case rel => exact ⟨k + 1, by omega, by go_num, hzH.out, hB3⟩
          case measure => simp [intOf]; omega
      · have hz : Hid (decide (l = m) = false) := Lib.hid (decide_eq_false fun e => hb (by rw [e]))
        have t : (l.getD k false != m.getD k false) = true := by rw [bne_iff_ne]; exact hb
        clear hc hb hcl hdl
        generalize l.getD k false = x at *
        generalize m.getD k false = y at *
        obtain rfl : y = !x := by cases x <;> cases y <;> simp at t ⊢
        clear t
        cases x
        all_goals
          simp only [Bool.not_true, Bool.not_false] at d1 e1
          go_wp2_with (fail)
          go_quiet (fail)
          have hB3 := below_c hB (drew_below wr nq)
          go_wp2_with (fail)
          go_ret
          exact ⟨by rw [hz.out]; rfl, hB3⟩
    · have x1 : ¬ ((k : Int) < (l.length : Int)) := by omega
      obtain rfl : k = l.length := by omega
      have hz : Hid (decide (l = m) = true) := Lib.hid (decide_eq_true (blist_ext hlenH.out hc))
      clear hc
      go_wp2_with (fail)
      go_ret
      exact ⟨by rw [hz.out]; rfl, hB⟩

/-- A row that was laid, read. -/
theorem lit_reads (w : World) (T : TypeId) (xs : List Value) (c : Nat) : Reads (w.alloc (.cells xs.toArray T)) (.slice (some ⟨w.heap.size, 0, none⟩) xs.length c) xs :=
  .inr ⟨_, _, _, rfl, by simp, fun i hi => by rw [Nat.zero_add, World.cell?_alloc_mark]; simp [List.getD_eq_getElem?_getD, hi]⟩
def lA : Lbl := ⟨1, 0, 1, 1, 1, 8, [1, 1], [1, 1], [0, 0]⟩
def lB : Lbl := ⟨1, 1, 2, 1, 1, 8, [1, 1], [1, 1], [0, 0]⟩
def fds (va vb vc : Value) : List Fd := [⟨true, lA, va, vb, vc⟩, ⟨true, lB, va, vb, vc⟩]
theorem rA : rightB lA = true := by kernel_rfl
theorem pA : putE lA = 0 := by rw [putE, rA]; rfl
theorem sA : (putL lA).size = 32 := by kernel_rfl
theorem gA : getL (putL lA ++ ⟨#[0]⟩) = lA ∧ getE (putL lA ++ ⟨#[0]⟩) = 0 := by
  have := get_laid rA ⟨#[0]⟩ (by kernel_rfl)
  exact ⟨this.2, by rw [getE, this.1]; rfl⟩
theorem cA (va vb vc : Value) : choL 1 (fds va vb vc) = lB ∧ choU 1 (fds va vb vc) = [true, true] ∧ choE 1 (fds va vb vc) = 0 := by
  refine ⟨?_, ?_, ?_⟩ <;> kernel_rfl
theorem cB (va vb vc : Value) : choL 2 (fds va vb vc) = noLbl ∧ choU 2 (fds va vb vc) = [] ∧ choE 2 (fds va vb vc) = 101 := by
  refine ⟨?_, ?_, ?_⟩ <;> kernel_rfl
def lN : Lbl := ⟨1, 0, 2, 1, 1, 8, [1, 0], [1, 1], [0, 0]⟩
theorem nA : nextL lA [true, false] = lN ∧ nextE lA [true, false] = 0 := by
  refine ⟨?_, ?_⟩ <;> kernel_rfl
open Go.RowKit
set_option linter.unusedVariables false
set_option linter.unusedSimpArgs false
open Lb

structure AwB (w W : World) (g : Nat) : Prop where
  a : LblAt W (g + 1 + 1 + 1) lA (.slice (some ⟨g, 0, none⟩) 2 2) (.slice (some ⟨g + 1, 0, none⟩) 2 2) (.slice (some ⟨g + 1 + 1, 0, none⟩) 2 2)
  b : LblAt W (g + 1 + 1 + 1 + 1) lB (.slice (some ⟨g, 0, none⟩) 2 2) (.slice (some ⟨g + 1, 0, none⟩) 2 2) (.slice (some ⟨g + 1 + 1, 0, none⟩) 2 2)
  r : LR W lA (.slice (some ⟨g, 0, none⟩) 2 2) (.slice (some ⟨g + 1, 0, none⟩) 2 2) (.slice (some ⟨g + 1 + 1, 0, none⟩) 2 2)
  s : LR W lB (.slice (some ⟨g, 0, none⟩) 2 2) (.slice (some ⟨g + 1, 0, none⟩) 2 2) (.slice (some ⟨g + 1 + 1, 0, none⟩) 2 2)
  bel : Below g w W
theorem AwB.step {w W W' : World} {g : Nat} (h : AwB w W g) (hb : Below W.heap.size W W') : AwB w W' g := ⟨h.a.below hb h.a.lt, h.b.below hb h.b.lt, h.r.below hb, h.s.below hb, h.bel.trans (hb.mono (by have := h.a.lt; omega))⟩
theorem AwB.made (w : World) (g : Nat) (hg : w.heap.size = g) : AwB w (((((w.alloc (.cells #[.int .i64 1, .int .i64 1] 3)).alloc (.cells #[.int .i64 1, .int .i64 1] 3)).alloc (.cells #[.int .i64 0, .int .i64 0] 3)).alloc (.cells #[.int .i64 1, .int .i64 0, .int .i64 1, .int .i64 1, .int .i64 1, .int .i64 8, (.slice (some ⟨g, 0, none⟩) 2 2), (.slice (some ⟨g + 1, 0, none⟩) 2 2), (.slice (some ⟨g + 1 + 1, 0, none⟩) 2 2)] 26)).alloc (.cells #[.int .i64 1, .int .i64 1, .int .i64 2, .int .i64 1, .int .i64 1, .int .i64 8, (.slice (some ⟨g, 0, none⟩) 2 2), (.slice (some ⟨g + 1, 0, none⟩) 2 2), (.slice (some ⟨g + 1 + 1, 0, none⟩) 2 2)] 26)) g := by
  subst hg
  have b1 : Below w.heap.size w (w.alloc (.cells #[.int .i64 1, .int .i64 1] 3)) := (Below.refl _ _).alloc (Nat.le_refl _) _
  have r1 := lit_reads w 3 (([1, 1] : List Int).map (.int .i64)) 2
  have s1 : (w.alloc (.cells #[.int .i64 1, .int .i64 1] 3)).heap.size = w.heap.size + 1 := by simp
  change Reads (w.alloc (.cells #[.int .i64 1, .int .i64 1] 3)) _ _ at r1
  generalize w.alloc (.cells #[.int .i64 1, .int .i64 1] 3) = w1 at *
  have b2 : Below w1.heap.size w1 (w1.alloc (.cells #[.int .i64 1, .int .i64 1] 3)) := (Below.refl _ _).alloc (Nat.le_refl _) _
  have r2 := lit_reads w1 3 (([1, 1] : List Int).map (.int .i64)) 2
  have s2 : (w1.alloc (.cells #[.int .i64 1, .int .i64 1] 3)).heap.size = w.heap.size + 1 + 1 := by simp [s1]
  change Reads (w1.alloc (.cells #[.int .i64 1, .int .i64 1] 3)) _ _ at r2
  rw [s1] at r2
  replace r1 := r1.below b2
  replace b2 := below_c b1 b2
  clear b1 s1
  generalize w1.alloc (.cells #[.int .i64 1, .int .i64 1] 3) = w2 at *
  have b3 : Below w2.heap.size w2 (w2.alloc (.cells #[.int .i64 0, .int .i64 0] 3)) := (Below.refl _ _).alloc (Nat.le_refl _) _
  have r3 := lit_reads w2 3 (([0, 0] : List Int).map (.int .i64)) 2
  have s3 : (w2.alloc (.cells #[.int .i64 0, .int .i64 0] 3)).heap.size = w.heap.size + 1 + 1 + 1 := by simp [s2]
  change Reads (w2.alloc (.cells #[.int .i64 0, .int .i64 0] 3)) _ _ at r3
  rw [s2] at r3
  replace r1 := r1.below b3
  replace r2 := r2.below b3
  replace b3 := below_c b2 b3
  clear b2 s2 w1
  generalize w2.alloc (.cells #[.int .i64 0, .int .i64 0] 3) = w3 at *
  have L3 : LR w3 lA (.slice (some ⟨w.heap.size, 0, none⟩) 2 2) (.slice (some ⟨w.heap.size + 1, 0, none⟩) 2 2) (.slice (some ⟨w.heap.size + 1 + 1, 0, none⟩) 2 2) := ⟨r1, r2, r3, by decide, by decide, by decide⟩
  have x4 := LblAt.made w3 lA (.slice (some ⟨w.heap.size, 0, none⟩) 2 2) (.slice (some ⟨w.heap.size + 1, 0, none⟩) 2 2) (.slice (some ⟨w.heap.size + 1 + 1, 0, none⟩) 2 2) 26
  rw [s3] at x4
  change LblAt (w3.alloc (.cells #[.int .i64 1, .int .i64 0, .int .i64 1, .int .i64 1, .int .i64 1, .int .i64 8, (.slice (some ⟨w.heap.size, 0, none⟩) 2 2), (.slice (some ⟨w.heap.size + 1, 0, none⟩) 2 2), (.slice (some ⟨w.heap.size + 1 + 1, 0, none⟩) 2 2)] 26)) _ _ _ _ _ at x4
  have b4 : Below w3.heap.size w3 (w3.alloc (.cells #[.int .i64 1, .int .i64 0, .int .i64 1, .int .i64 1, .int .i64 1, .int .i64 8, (.slice (some ⟨w.heap.size, 0, none⟩) 2 2), (.slice (some ⟨w.heap.size + 1, 0, none⟩) 2 2), (.slice (some ⟨w.heap.size + 1 + 1, 0, none⟩) 2 2)] 26)) := (Below.refl _ _).alloc (Nat.le_refl _) _
  have s4 : (w3.alloc (.cells #[.int .i64 1, .int .i64 0, .int .i64 1, .int .i64 1, .int .i64 1, .int .i64 8, (.slice (some ⟨w.heap.size, 0, none⟩) 2 2), (.slice (some ⟨w.heap.size + 1, 0, none⟩) 2 2), (.slice (some ⟨w.heap.size + 1 + 1, 0, none⟩) 2 2)] 26)).heap.size = w.heap.size + 1 + 1 + 1 + 1 := by simp [s3]
  have L4 := L3.below b4
  replace b4 := below_c b3 b4
  clear b3 L3 r1 r2 r3 s3
  generalize w3.alloc (.cells #[.int .i64 1, .int .i64 0, .int .i64 1, .int .i64 1, .int .i64 1, .int .i64 8, (.slice (some ⟨w.heap.size, 0, none⟩) 2 2), (.slice (some ⟨w.heap.size + 1, 0, none⟩) 2 2), (.slice (some ⟨w.heap.size + 1 + 1, 0, none⟩) 2 2)] 26) = w4 at *
  have x5 := LblAt.made w4 lB (.slice (some ⟨w.heap.size, 0, none⟩) 2 2) (.slice (some ⟨w.heap.size + 1, 0, none⟩) 2 2) (.slice (some ⟨w.heap.size + 1 + 1, 0, none⟩) 2 2) 26
  rw [s4] at x5
  change LblAt (w4.alloc (.cells #[.int .i64 1, .int .i64 1, .int .i64 2, .int .i64 1, .int .i64 1, .int .i64 8, (.slice (some ⟨w.heap.size, 0, none⟩) 2 2), (.slice (some ⟨w.heap.size + 1, 0, none⟩) 2 2), (.slice (some ⟨w.heap.size + 1 + 1, 0, none⟩) 2 2)] 26)) _ _ _ _ _ at x5
  have b5 : Below w4.heap.size w4 (w4.alloc (.cells #[.int .i64 1, .int .i64 1, .int .i64 2, .int .i64 1, .int .i64 1, .int .i64 8, (.slice (some ⟨w.heap.size, 0, none⟩) 2 2), (.slice (some ⟨w.heap.size + 1, 0, none⟩) 2 2), (.slice (some ⟨w.heap.size + 1 + 1, 0, none⟩) 2 2)] 26)) := (Below.refl _ _).alloc (Nat.le_refl _) _
  exact ⟨x4.below b5 x4.lt, x5, L4.below b5, ⟨(L4.below b5).s, (L4.below b5).b, (L4.below b5).c, by decide, by decide, by decide⟩, below_c b4 b5⟩
/-- The two that were found, laid. -/
theorem found_made {w W : World} {g : Nat} (h : AwB w W g) (T : TypeId) : FReads (W.alloc (.cells #[.bool true, .int .i64 1, .int .i64 0, .int .i64 1, .int .i64 1, .int .i64 1, .int .i64 8, (.slice (some ⟨g, 0, none⟩) 2 2), (.slice (some ⟨g + 1, 0, none⟩) 2 2), (.slice (some ⟨g + 1 + 1, 0, none⟩) 2 2), .bool true, .int .i64 1, .int .i64 1, .int .i64 2, .int .i64 1, .int .i64 1, .int .i64 8, (.slice (some ⟨g, 0, none⟩) 2 2), (.slice (some ⟨g + 1, 0, none⟩) 2 2), (.slice (some ⟨g + 1 + 1, 0, none⟩) 2 2)] T)) (.slice (some ⟨W.heap.size, 0, none⟩) 2 2) (fds (.slice (some ⟨g, 0, none⟩) 2 2) (.slice (some ⟨g + 1, 0, none⟩) 2 2) (.slice (some ⟨g + 1 + 1, 0, none⟩) 2 2)) := by
  have hb : Below W.heap.size W (W.alloc (.cells #[.bool true, .int .i64 1, .int .i64 0, .int .i64 1, .int .i64 1, .int .i64 1, .int .i64 8, (.slice (some ⟨g, 0, none⟩) 2 2), (.slice (some ⟨g + 1, 0, none⟩) 2 2), (.slice (some ⟨g + 1 + 1, 0, none⟩) 2 2), .bool true, .int .i64 1, .int .i64 1, .int .i64 2, .int .i64 1, .int .i64 1, .int .i64 8, (.slice (some ⟨g, 0, none⟩) 2 2), (.slice (some ⟨g + 1, 0, none⟩) 2 2), (.slice (some ⟨g + 1 + 1, 0, none⟩) 2 2)] T)) := (Below.refl _ _).alloc (Nat.le_refl _) _
  have h2 := h.step hb
  refine ⟨_, _, rfl, fun i hi => ⟨_, 0, rfl, ?_⟩⟩
  have : i = 0 ∨ i = 1 := by
    have : i < 2 := hi
    omega
  rcases this with rfl | rfl
  · exact ⟨⟨by rw [World.cell?_alloc_mark]; rfl, by rw [World.cell?_alloc_mark]; rfl, by rw [World.cell?_alloc_mark]; rfl, by rw [World.cell?_alloc_mark]; rfl, by rw [World.cell?_alloc_mark]; rfl, by rw [World.cell?_alloc_mark]; rfl, by rw [World.cell?_alloc_mark]; rfl, by rw [World.cell?_alloc_mark]; rfl, by rw [World.cell?_alloc_mark]; rfl, by rw [World.cell?_alloc_mark]; rfl, by simp⟩, h2.r⟩
  · exact ⟨⟨by rw [World.cell?_alloc_mark]; rfl, by rw [World.cell?_alloc_mark]; rfl, by rw [World.cell?_alloc_mark]; rfl, by rw [World.cell?_alloc_mark]; rfl, by rw [World.cell?_alloc_mark]; rfl, by rw [World.cell?_alloc_mark]; rfl, by rw [World.cell?_alloc_mark]; rfl, by rw [World.cell?_alloc_mark]; rfl, by rw [World.cell?_alloc_mark]; rfl, by rw [World.cell?_alloc_mark]; rfl, by simp⟩, h2.s⟩
set_option maxRecDepth 100000 in
set_option maxHeartbeats 3000000 in
theorem awake10_any (w : World) : Calls Tryd.prog 10 #[] w (Tells w (.bool true)) := by
  obtain ⟨g, hg⟩ : ∃ g, w.heap.size = g := ⟨_, rfl⟩
  have B := AwB.made w g hg
  go_enter Tryd.func10, Tryd.ntmps10
  go_upto_region 5 with (fail)
  have Bz := B
  generalize (((((w.alloc (.cells #[.int .i64 1, .int .i64 1] 3)).alloc (.cells #[.int .i64 1, .int .i64 1] 3)).alloc (.cells #[.int .i64 0, .int .i64 0] 3)).alloc (.cells #[.int .i64 1, .int .i64 0, .int .i64 1, .int .i64 1, .int .i64 1, .int .i64 8, (.slice (some ⟨g, 0, none⟩) 2 2), (.slice (some ⟨g + 1, 0, none⟩) 2 2), (.slice (some ⟨g + 1 + 1, 0, none⟩) 2 2)] 26)).alloc (.cells #[.int .i64 1, .int .i64 1, .int .i64 2, .int .i64 1, .int .i64 1, .int .i64 8, (.slice (some ⟨g, 0, none⟩) 2 2), (.slice (some ⟨g + 1, 0, none⟩) 2 2), (.slice (some ⟨g + 1 + 1, 0, none⟩) 2 2)] 26)) = w0 at *
  replace hg := Lib.hid hg
  clear Bz
  have cP : Calls Tryd.prog 11 #[.agg #[.int .i64 1, .int .i64 0, .int .i64 1, .int .i64 1, .int .i64 1, .int .i64 8, (.slice (some ⟨g, 0, none⟩) 2 2), (.slice (some ⟨g + 1, 0, none⟩) 2 2), (.slice (some ⟨g + 1 + 1, 0, none⟩) 2 2)]] w0 (Tells2 w0 (putL lA) 0) := by have := lput_any lA (.slice (some ⟨g, 0, none⟩) 2 2) (.slice (some ⟨g + 1, 0, none⟩) 2 2) (.slice (some ⟨g + 1 + 1, 0, none⟩) 2 2) w0 B.r; rw [pA] at this; exact this
  have hS := sA
  have hG := gA
  generalize putL lA = S at cP hS hG
  have hS1 : S.size ≤ 32 := by omega
  have hS2 : S.size + 1 ≤ 300 := by omega
  have hN1 : (⟨#[0]⟩ : ByteArray).size = 1 := rfl
  have hS3 : ((S.size : Nat) : Int) = 32 := by omega
  replace hS3 := Lib.hid hS3
  replace hS := Lib.hid hS
  have a0 : w0.cell? ⟨g + 1 + 1 + 1, 0, none⟩ = some (.int .i64 1) := B.a.c0
  have a1 : w0.cell? ⟨g + 1 + 1 + 1, 1, none⟩ = some (.int .i64 0) := B.a.c1
  have a2 : w0.cell? ⟨g + 1 + 1 + 1, 2, none⟩ = some (.int .i64 1) := B.a.c2
  have a3 : w0.cell? ⟨g + 1 + 1 + 1, 3, none⟩ = some (.int .i64 1) := B.a.c3
  have a4 : w0.cell? ⟨g + 1 + 1 + 1, 4, none⟩ = some (.int .i64 1) := B.a.c4
  have a5 : w0.cell? ⟨g + 1 + 1 + 1, 5, none⟩ = some (.int .i64 8) := B.a.c5
  have a6 : w0.cell? ⟨g + 1 + 1 + 1, 6, none⟩ = some ((.slice (some ⟨g, 0, none⟩) 2 2)) := B.a.c6
  have a7 : w0.cell? ⟨g + 1 + 1 + 1, 7, none⟩ = some ((.slice (some ⟨g + 1, 0, none⟩) 2 2)) := B.a.c7
  have a8 : w0.cell? ⟨g + 1 + 1 + 1, 8, none⟩ = some ((.slice (some ⟨g + 1 + 1, 0, none⟩) 2 2)) := B.a.c8
  have alt : g + 1 + 1 + 1 < w0.heap.size := B.a.lt
  have b0 : w0.cell? ⟨g + 1 + 1 + 1 + 1, 0, none⟩ = some (.int .i64 1) := B.b.c0
  have b1 : w0.cell? ⟨g + 1 + 1 + 1 + 1, 1, none⟩ = some (.int .i64 1) := B.b.c1
  have b2 : w0.cell? ⟨g + 1 + 1 + 1 + 1, 2, none⟩ = some (.int .i64 2) := B.b.c2
  have b3 : w0.cell? ⟨g + 1 + 1 + 1 + 1, 3, none⟩ = some (.int .i64 1) := B.b.c3
  have b4 : w0.cell? ⟨g + 1 + 1 + 1 + 1, 4, none⟩ = some (.int .i64 1) := B.b.c4
  have b5 : w0.cell? ⟨g + 1 + 1 + 1 + 1, 5, none⟩ = some (.int .i64 8) := B.b.c5
  have b6 : w0.cell? ⟨g + 1 + 1 + 1 + 1, 6, none⟩ = some ((.slice (some ⟨g, 0, none⟩) 2 2)) := B.b.c6
  have b7 : w0.cell? ⟨g + 1 + 1 + 1 + 1, 7, none⟩ = some ((.slice (some ⟨g + 1, 0, none⟩) 2 2)) := B.b.c7
  have b8 : w0.cell? ⟨g + 1 + 1 + 1 + 1, 8, none⟩ = some ((.slice (some ⟨g + 1 + 1, 0, none⟩) 2 2)) := B.b.c8
  have blt : g + 1 + 1 + 1 + 1 < w0.heap.size := B.b.lt
  go_wp2_with (fail)
  refine cP.mono ?_
  rintro e w1 ⟨rfl, b1⟩
  have B1 := B.step b1
  clear a0 a1 a2 a3 a4 a5 a6 a7 a8 b0 b1 b2 b3 b4 b5 b6 b7 b8 alt blt
  clear cP b1 B
  have cG : Calls Tryd.prog 13 #[.string (S ++ ⟨#[0]⟩)] w1 (GivesL w1 lA 0) := by
    have := lget_any (S ++ ⟨#[0]⟩) w1 (by rw [ByteArray.size_append, hN1]; omega); rw [hG.1, hG.2] at this; exact this
  clear hG
  have a0 : w1.cell? ⟨g + 1 + 1 + 1, 0, none⟩ = some (.int .i64 1) := B1.a.c0
  have a1 : w1.cell? ⟨g + 1 + 1 + 1, 1, none⟩ = some (.int .i64 0) := B1.a.c1
  have a2 : w1.cell? ⟨g + 1 + 1 + 1, 2, none⟩ = some (.int .i64 1) := B1.a.c2
  have a3 : w1.cell? ⟨g + 1 + 1 + 1, 3, none⟩ = some (.int .i64 1) := B1.a.c3
  have a4 : w1.cell? ⟨g + 1 + 1 + 1, 4, none⟩ = some (.int .i64 1) := B1.a.c4
  have a5 : w1.cell? ⟨g + 1 + 1 + 1, 5, none⟩ = some (.int .i64 8) := B1.a.c5
  have a6 : w1.cell? ⟨g + 1 + 1 + 1, 6, none⟩ = some ((.slice (some ⟨g, 0, none⟩) 2 2)) := B1.a.c6
  have a7 : w1.cell? ⟨g + 1 + 1 + 1, 7, none⟩ = some ((.slice (some ⟨g + 1, 0, none⟩) 2 2)) := B1.a.c7
  have a8 : w1.cell? ⟨g + 1 + 1 + 1, 8, none⟩ = some ((.slice (some ⟨g + 1 + 1, 0, none⟩) 2 2)) := B1.a.c8
  have alt : g + 1 + 1 + 1 < w1.heap.size := B1.a.lt
  have b0 : w1.cell? ⟨g + 1 + 1 + 1 + 1, 0, none⟩ = some (.int .i64 1) := B1.b.c0
  have b1 : w1.cell? ⟨g + 1 + 1 + 1 + 1, 1, none⟩ = some (.int .i64 1) := B1.b.c1
  have b2 : w1.cell? ⟨g + 1 + 1 + 1 + 1, 2, none⟩ = some (.int .i64 2) := B1.b.c2
  have b3 : w1.cell? ⟨g + 1 + 1 + 1 + 1, 3, none⟩ = some (.int .i64 1) := B1.b.c3
  have b4 : w1.cell? ⟨g + 1 + 1 + 1 + 1, 4, none⟩ = some (.int .i64 1) := B1.b.c4
  have b5 : w1.cell? ⟨g + 1 + 1 + 1 + 1, 5, none⟩ = some (.int .i64 8) := B1.b.c5
  have b6 : w1.cell? ⟨g + 1 + 1 + 1 + 1, 6, none⟩ = some ((.slice (some ⟨g, 0, none⟩) 2 2)) := B1.b.c6
  have b7 : w1.cell? ⟨g + 1 + 1 + 1 + 1, 7, none⟩ = some ((.slice (some ⟨g + 1, 0, none⟩) 2 2)) := B1.b.c7
  have b8 : w1.cell? ⟨g + 1 + 1 + 1 + 1, 8, none⟩ = some ((.slice (some ⟨g + 1 + 1, 0, none⟩) 2 2)) := B1.b.c8
  have blt : g + 1 + 1 + 1 + 1 < w1.heap.size := B1.b.lt
  go_wp2_with (fail)
  refine cG.mono ?_
  rintro e w2 ⟨va, vb, vc, rfl, L5, b2⟩
  have B2 := B1.step b2
  obtain ⟨x1, y1, ev⟩ := L5.s.isSlice
  change va = .slice x1 2 y1 at ev
  subst ev
  obtain ⟨x2, y2, ev⟩ := L5.b.isSlice
  change vb = .slice x2 2 y2 at ev
  subst ev
  obtain ⟨x3, y3, ev⟩ := L5.c.isSlice
  change vc = .slice x3 2 y3 at ev
  subst ev
  clear a0 a1 a2 a3 a4 a5 a6 a7 a8 b0 b1 b2 b3 b4 b5 b6 b7 b8 alt blt
  clear cG b2 B1
  simp only [Lbl.v, lA]
  change LR w2 lA _ _ _ at L5
  have K5 : LblAt (w2.alloc (.cells #[.int .i64 1, .int .i64 0, .int .i64 1, .int .i64 1, .int .i64 1, .int .i64 8, .slice x1 2 y1, .slice x2 2 y2, .slice x3 2 y3] 26)) w2.heap.size lA (.slice x1 2 y1) (.slice x2 2 y2) (.slice x3 2 y3) := LblAt.made w2 lA _ _ _ 26
  have bk : Below w2.heap.size w2 (w2.alloc (.cells #[.int .i64 1, .int .i64 0, .int .i64 1, .int .i64 1, .int .i64 1, .int .i64 8, .slice x1 2 y1, .slice x2 2 y2, .slice x3 2 y3] 26)) := (Below.refl _ _).alloc (Nat.le_refl _) _
  have B3 := B2.step bk
  replace L5 := L5.below bk
  have a0 : w2.cell? ⟨g + 1 + 1 + 1, 0, none⟩ = some (.int .i64 1) := B2.a.c0
  have a1 : w2.cell? ⟨g + 1 + 1 + 1, 1, none⟩ = some (.int .i64 0) := B2.a.c1
  have a2 : w2.cell? ⟨g + 1 + 1 + 1, 2, none⟩ = some (.int .i64 1) := B2.a.c2
  have a3 : w2.cell? ⟨g + 1 + 1 + 1, 3, none⟩ = some (.int .i64 1) := B2.a.c3
  have a4 : w2.cell? ⟨g + 1 + 1 + 1, 4, none⟩ = some (.int .i64 1) := B2.a.c4
  have a5 : w2.cell? ⟨g + 1 + 1 + 1, 5, none⟩ = some (.int .i64 8) := B2.a.c5
  have a6 : w2.cell? ⟨g + 1 + 1 + 1, 6, none⟩ = some ((.slice (some ⟨g, 0, none⟩) 2 2)) := B2.a.c6
  have a7 : w2.cell? ⟨g + 1 + 1 + 1, 7, none⟩ = some ((.slice (some ⟨g + 1, 0, none⟩) 2 2)) := B2.a.c7
  have a8 : w2.cell? ⟨g + 1 + 1 + 1, 8, none⟩ = some ((.slice (some ⟨g + 1 + 1, 0, none⟩) 2 2)) := B2.a.c8
  have alt : g + 1 + 1 + 1 < w2.heap.size := B2.a.lt
  have b0 : w2.cell? ⟨g + 1 + 1 + 1 + 1, 0, none⟩ = some (.int .i64 1) := B2.b.c0
  have b1 : w2.cell? ⟨g + 1 + 1 + 1 + 1, 1, none⟩ = some (.int .i64 1) := B2.b.c1
  have b2 : w2.cell? ⟨g + 1 + 1 + 1 + 1, 2, none⟩ = some (.int .i64 2) := B2.b.c2
  have b3 : w2.cell? ⟨g + 1 + 1 + 1 + 1, 3, none⟩ = some (.int .i64 1) := B2.b.c3
  have b4 : w2.cell? ⟨g + 1 + 1 + 1 + 1, 4, none⟩ = some (.int .i64 1) := B2.b.c4
  have b5 : w2.cell? ⟨g + 1 + 1 + 1 + 1, 5, none⟩ = some (.int .i64 8) := B2.b.c5
  have b6 : w2.cell? ⟨g + 1 + 1 + 1 + 1, 6, none⟩ = some ((.slice (some ⟨g, 0, none⟩) 2 2)) := B2.b.c6
  have b7 : w2.cell? ⟨g + 1 + 1 + 1 + 1, 7, none⟩ = some ((.slice (some ⟨g + 1, 0, none⟩) 2 2)) := B2.b.c7
  have b8 : w2.cell? ⟨g + 1 + 1 + 1 + 1, 8, none⟩ = some ((.slice (some ⟨g + 1 + 1, 0, none⟩) 2 2)) := B2.b.c8
  have blt : g + 1 + 1 + 1 + 1 < w2.heap.size := B2.b.lt
  go_upto_region 7 with (fail)
  clear a0 a1 a2 a3 a4 a5 a6 a7 a8 b0 b1 b2 b3 b4 b5 b6 b7 b8 alt blt
  clear bk B2
  generalize w2.alloc (.cells #[.int .i64 1, .int .i64 0, .int .i64 1, .int .i64 1, .int .i64 1, .int .i64 8, .slice x1 2 y1, .slice x2 2 y2, .slice x3 2 y3] 26) = w3 at *
  obtain ⟨p5, hp5⟩ : ∃ p, w2.heap.size = p := ⟨_, rfl⟩
  rw [hp5] at K5 ⊢
  clear hp5
  have a0 : w3.cell? ⟨g + 1 + 1 + 1, 0, none⟩ = some (.int .i64 1) := B3.a.c0
  have a1 : w3.cell? ⟨g + 1 + 1 + 1, 1, none⟩ = some (.int .i64 0) := B3.a.c1
  have a2 : w3.cell? ⟨g + 1 + 1 + 1, 2, none⟩ = some (.int .i64 1) := B3.a.c2
  have a3 : w3.cell? ⟨g + 1 + 1 + 1, 3, none⟩ = some (.int .i64 1) := B3.a.c3
  have a4 : w3.cell? ⟨g + 1 + 1 + 1, 4, none⟩ = some (.int .i64 1) := B3.a.c4
  have a5 : w3.cell? ⟨g + 1 + 1 + 1, 5, none⟩ = some (.int .i64 8) := B3.a.c5
  have a6 : w3.cell? ⟨g + 1 + 1 + 1, 6, none⟩ = some ((.slice (some ⟨g, 0, none⟩) 2 2)) := B3.a.c6
  have a7 : w3.cell? ⟨g + 1 + 1 + 1, 7, none⟩ = some ((.slice (some ⟨g + 1, 0, none⟩) 2 2)) := B3.a.c7
  have a8 : w3.cell? ⟨g + 1 + 1 + 1, 8, none⟩ = some ((.slice (some ⟨g + 1 + 1, 0, none⟩) 2 2)) := B3.a.c8
  have alt : g + 1 + 1 + 1 < w3.heap.size := B3.a.lt
  have b0 : w3.cell? ⟨g + 1 + 1 + 1 + 1, 0, none⟩ = some (.int .i64 1) := B3.b.c0
  have b1 : w3.cell? ⟨g + 1 + 1 + 1 + 1, 1, none⟩ = some (.int .i64 1) := B3.b.c1
  have b2 : w3.cell? ⟨g + 1 + 1 + 1 + 1, 2, none⟩ = some (.int .i64 2) := B3.b.c2
  have b3 : w3.cell? ⟨g + 1 + 1 + 1 + 1, 3, none⟩ = some (.int .i64 1) := B3.b.c3
  have b4 : w3.cell? ⟨g + 1 + 1 + 1 + 1, 4, none⟩ = some (.int .i64 1) := B3.b.c4
  have b5 : w3.cell? ⟨g + 1 + 1 + 1 + 1, 5, none⟩ = some (.int .i64 8) := B3.b.c5
  have b6 : w3.cell? ⟨g + 1 + 1 + 1 + 1, 6, none⟩ = some ((.slice (some ⟨g, 0, none⟩) 2 2)) := B3.b.c6
  have b7 : w3.cell? ⟨g + 1 + 1 + 1 + 1, 7, none⟩ = some ((.slice (some ⟨g + 1, 0, none⟩) 2 2)) := B3.b.c7
  have b8 : w3.cell? ⟨g + 1 + 1 + 1 + 1, 8, none⟩ = some ((.slice (some ⟨g + 1 + 1, 0, none⟩) 2 2)) := B3.b.c8
  have blt : g + 1 + 1 + 1 + 1 < w3.heap.size := B3.b.lt
  have F1 := found_made B3 45
  have bf1 : Below w3.heap.size w3 (w3.alloc (.cells #[.bool true, .int .i64 1, .int .i64 0, .int .i64 1, .int .i64 1, .int .i64 1, .int .i64 8, (.slice (some ⟨g, 0, none⟩) 2 2), (.slice (some ⟨g + 1, 0, none⟩) 2 2), (.slice (some ⟨g + 1 + 1, 0, none⟩) 2 2), .bool true, .int .i64 1, .int .i64 1, .int .i64 2, .int .i64 1, .int .i64 1, .int .i64 8, (.slice (some ⟨g, 0, none⟩) 2 2), (.slice (some ⟨g + 1, 0, none⟩) 2 2), (.slice (some ⟨g + 1 + 1, 0, none⟩) 2 2)] 45)) := (Below.refl _ _).alloc (Nat.le_refl _) _
  have cC1 := choose_any 1 _ _ _ F1 (by show (2 : Nat) ≤ 1000; decide)
  rw [(cA _ _ _).1, (cA _ _ _).2.1, (cA _ _ _).2.2] at cC1
  go_wp2_with (fail)
  refine cC1.mono ?_
  rintro e w4 ⟨va, vb, vc, vu, rfl, o1, ou1, bc1⟩
  have bb1 := below_c bf1 bc1
  have B4 := B3.step bb1
  clear cC1 F1 bf1
  clear a0 a1 a2 a3 a4 a5 a6 a7 a8 b0 b1 b2 b3 b4 b5 b6 b7 b8 alt blt
  replace K5 := K5.below bb1 K5.lt
  replace L5 := L5.below bb1
  have L7 := o1.lr (by decide) (by decide) (by decide)
  have U7 := ou1.reads
  obtain ⟨x4, y4, ev⟩ := L7.s.isSlice
  change va = .slice x4 2 y4 at ev
  subst ev
  obtain ⟨x5, y5, ev⟩ := L7.b.isSlice
  change vb = .slice x5 2 y5 at ev
  subst ev
  obtain ⟨x6, y6, ev⟩ := L7.c.isSlice
  change vc = .slice x6 2 y6 at ev
  subst ev
  clear o1 ou1 bc1 bb1 B3
  simp only [Lbl.v, lB]
  have K7 : LblAt (w4.alloc (.cells #[.int .i64 1, .int .i64 1, .int .i64 2, .int .i64 1, .int .i64 1, .int .i64 8, .slice x4 2 y4, .slice x5 2 y5, .slice x6 2 y6] 26)) w4.heap.size lB (.slice x4 2 y4) (.slice x5 2 y5) (.slice x6 2 y6) := LblAt.made w4 lB _ _ _ 26
  have bk : Below w4.heap.size w4 (w4.alloc (.cells #[.int .i64 1, .int .i64 1, .int .i64 2, .int .i64 1, .int .i64 1, .int .i64 8, .slice x4 2 y4, .slice x5 2 y5, .slice x6 2 y6] 26)) := (Below.refl _ _).alloc (Nat.le_refl _) _
  have B5 := B4.step bk
  replace K5 := K5.below bk K5.lt
  replace L5 := L5.below bk
  replace L7 := L7.below bk
  replace U7 := U7.below bk
  have a0 : w4.cell? ⟨g + 1 + 1 + 1, 0, none⟩ = some (.int .i64 1) := B4.a.c0
  have a1 : w4.cell? ⟨g + 1 + 1 + 1, 1, none⟩ = some (.int .i64 0) := B4.a.c1
  have a2 : w4.cell? ⟨g + 1 + 1 + 1, 2, none⟩ = some (.int .i64 1) := B4.a.c2
  have a3 : w4.cell? ⟨g + 1 + 1 + 1, 3, none⟩ = some (.int .i64 1) := B4.a.c3
  have a4 : w4.cell? ⟨g + 1 + 1 + 1, 4, none⟩ = some (.int .i64 1) := B4.a.c4
  have a5 : w4.cell? ⟨g + 1 + 1 + 1, 5, none⟩ = some (.int .i64 8) := B4.a.c5
  have a6 : w4.cell? ⟨g + 1 + 1 + 1, 6, none⟩ = some ((.slice (some ⟨g, 0, none⟩) 2 2)) := B4.a.c6
  have a7 : w4.cell? ⟨g + 1 + 1 + 1, 7, none⟩ = some ((.slice (some ⟨g + 1, 0, none⟩) 2 2)) := B4.a.c7
  have a8 : w4.cell? ⟨g + 1 + 1 + 1, 8, none⟩ = some ((.slice (some ⟨g + 1 + 1, 0, none⟩) 2 2)) := B4.a.c8
  have alt : g + 1 + 1 + 1 < w4.heap.size := B4.a.lt
  have b0 : w4.cell? ⟨g + 1 + 1 + 1 + 1, 0, none⟩ = some (.int .i64 1) := B4.b.c0
  have b1 : w4.cell? ⟨g + 1 + 1 + 1 + 1, 1, none⟩ = some (.int .i64 1) := B4.b.c1
  have b2 : w4.cell? ⟨g + 1 + 1 + 1 + 1, 2, none⟩ = some (.int .i64 2) := B4.b.c2
  have b3 : w4.cell? ⟨g + 1 + 1 + 1 + 1, 3, none⟩ = some (.int .i64 1) := B4.b.c3
  have b4 : w4.cell? ⟨g + 1 + 1 + 1 + 1, 4, none⟩ = some (.int .i64 1) := B4.b.c4
  have b5 : w4.cell? ⟨g + 1 + 1 + 1 + 1, 5, none⟩ = some (.int .i64 8) := B4.b.c5
  have b6 : w4.cell? ⟨g + 1 + 1 + 1 + 1, 6, none⟩ = some ((.slice (some ⟨g, 0, none⟩) 2 2)) := B4.b.c6
  have b7 : w4.cell? ⟨g + 1 + 1 + 1 + 1, 7, none⟩ = some ((.slice (some ⟨g + 1, 0, none⟩) 2 2)) := B4.b.c7
  have b8 : w4.cell? ⟨g + 1 + 1 + 1 + 1, 8, none⟩ = some ((.slice (some ⟨g + 1 + 1, 0, none⟩) 2 2)) := B4.b.c8
  have blt : g + 1 + 1 + 1 + 1 < w4.heap.size := B4.b.lt
  go_upto_region 8 with (fail)
  clear a0 a1 a2 a3 a4 a5 a6 a7 a8 b0 b1 b2 b3 b4 b5 b6 b7 b8 alt blt
  clear bk B4
  generalize w4.alloc (.cells #[.int .i64 1, .int .i64 1, .int .i64 2, .int .i64 1, .int .i64 1, .int .i64 8, .slice x4 2 y4, .slice x5 2 y5, .slice x6 2 y6] 26) = w5 at *
  obtain ⟨p7, hpp⟩ : ∃ p, w4.heap.size = p := ⟨_, rfl⟩
  rw [hpp] at K7 ⊢
  clear hpp
  have a0 : w5.cell? ⟨g + 1 + 1 + 1, 0, none⟩ = some (.int .i64 1) := B5.a.c0
  have a1 : w5.cell? ⟨g + 1 + 1 + 1, 1, none⟩ = some (.int .i64 0) := B5.a.c1
  have a2 : w5.cell? ⟨g + 1 + 1 + 1, 2, none⟩ = some (.int .i64 1) := B5.a.c2
  have a3 : w5.cell? ⟨g + 1 + 1 + 1, 3, none⟩ = some (.int .i64 1) := B5.a.c3
  have a4 : w5.cell? ⟨g + 1 + 1 + 1, 4, none⟩ = some (.int .i64 1) := B5.a.c4
  have a5 : w5.cell? ⟨g + 1 + 1 + 1, 5, none⟩ = some (.int .i64 8) := B5.a.c5
  have a6 : w5.cell? ⟨g + 1 + 1 + 1, 6, none⟩ = some ((.slice (some ⟨g, 0, none⟩) 2 2)) := B5.a.c6
  have a7 : w5.cell? ⟨g + 1 + 1 + 1, 7, none⟩ = some ((.slice (some ⟨g + 1, 0, none⟩) 2 2)) := B5.a.c7
  have a8 : w5.cell? ⟨g + 1 + 1 + 1, 8, none⟩ = some ((.slice (some ⟨g + 1 + 1, 0, none⟩) 2 2)) := B5.a.c8
  have alt : g + 1 + 1 + 1 < w5.heap.size := B5.a.lt
  have b0 : w5.cell? ⟨g + 1 + 1 + 1 + 1, 0, none⟩ = some (.int .i64 1) := B5.b.c0
  have b1 : w5.cell? ⟨g + 1 + 1 + 1 + 1, 1, none⟩ = some (.int .i64 1) := B5.b.c1
  have b2 : w5.cell? ⟨g + 1 + 1 + 1 + 1, 2, none⟩ = some (.int .i64 2) := B5.b.c2
  have b3 : w5.cell? ⟨g + 1 + 1 + 1 + 1, 3, none⟩ = some (.int .i64 1) := B5.b.c3
  have b4 : w5.cell? ⟨g + 1 + 1 + 1 + 1, 4, none⟩ = some (.int .i64 1) := B5.b.c4
  have b5 : w5.cell? ⟨g + 1 + 1 + 1 + 1, 5, none⟩ = some (.int .i64 8) := B5.b.c5
  have b6 : w5.cell? ⟨g + 1 + 1 + 1 + 1, 6, none⟩ = some ((.slice (some ⟨g, 0, none⟩) 2 2)) := B5.b.c6
  have b7 : w5.cell? ⟨g + 1 + 1 + 1 + 1, 7, none⟩ = some ((.slice (some ⟨g + 1, 0, none⟩) 2 2)) := B5.b.c7
  have b8 : w5.cell? ⟨g + 1 + 1 + 1 + 1, 8, none⟩ = some ((.slice (some ⟨g + 1 + 1, 0, none⟩) 2 2)) := B5.b.c8
  have blt : g + 1 + 1 + 1 + 1 < w5.heap.size := B5.b.lt
  have F2 := found_made B5 45
  have bf2 : Below w5.heap.size w5 (w5.alloc (.cells #[.bool true, .int .i64 1, .int .i64 0, .int .i64 1, .int .i64 1, .int .i64 1, .int .i64 8, (.slice (some ⟨g, 0, none⟩) 2 2), (.slice (some ⟨g + 1, 0, none⟩) 2 2), (.slice (some ⟨g + 1 + 1, 0, none⟩) 2 2), .bool true, .int .i64 1, .int .i64 1, .int .i64 2, .int .i64 1, .int .i64 1, .int .i64 8, (.slice (some ⟨g, 0, none⟩) 2 2), (.slice (some ⟨g + 1, 0, none⟩) 2 2), (.slice (some ⟨g + 1 + 1, 0, none⟩) 2 2)] 45)) := (Below.refl _ _).alloc (Nat.le_refl _) _
  have cC2 := choose_any 2 _ _ _ F2 (by show (2 : Nat) ≤ 1000; decide)
  rw [(cB _ _ _).1, (cB _ _ _).2.1, (cB _ _ _).2.2] at cC2
  go_wp2_with (fail)
  refine cC2.mono ?_
  rintro e w6 ⟨va, vb, vc, vu, rfl, o2, ou2, bc2⟩
  have bb2 := below_c bf2 bc2
  have B6 := B5.step bb2
  clear cC2 F2 bf2
  clear a0 a1 a2 a3 a4 a5 a6 a7 a8 b0 b1 b2 b3 b4 b5 b6 b7 b8 alt blt
  replace K5 := K5.below bb2 K5.lt
  replace K7 := K7.below bb2 K7.lt
  replace L5 := L5.below bb2
  replace L7 := L7.below bb2
  replace U7 := U7.below bb2
  obtain ⟨x7, y7, ev⟩ := o2.a.isSlice
  change va = .slice x7 0 y7 at ev
  subst ev
  obtain ⟨x8, y8, ev⟩ := o2.b.isSlice
  change vb = .slice x8 0 y8 at ev
  subst ev
  obtain ⟨x9, y9, ev⟩ := o2.c.isSlice
  change vc = .slice x9 0 y9 at ev
  subst ev
  clear o2 ou2 bc2 bb2 B5
  simp only [Lbl.v, noLbl]
  have K10 : LblAt (w6.alloc (.cells #[.int .i64 0, .int .i64 0, .int .i64 0, .int .i64 0, .int .i64 0, .int .i64 0, .slice x7 0 y7, .slice x8 0 y8, .slice x9 0 y9] 26)) w6.heap.size noLbl (.slice x7 0 y7) (.slice x8 0 y8) (.slice x9 0 y9) := LblAt.made w6 noLbl _ _ _ 26
  have bk : Below w6.heap.size w6 (w6.alloc (.cells #[.int .i64 0, .int .i64 0, .int .i64 0, .int .i64 0, .int .i64 0, .int .i64 0, .slice x7 0 y7, .slice x8 0 y8, .slice x9 0 y9] 26)) := (Below.refl _ _).alloc (Nat.le_refl _) _
  have B7 := B6.step bk
  replace K5 := K5.below bk K5.lt
  replace L5 := L5.below bk
  replace K7 := K7.below bk K7.lt
  replace L7 := L7.below bk
  replace U7 := U7.below bk
  have a0 : w6.cell? ⟨g + 1 + 1 + 1, 0, none⟩ = some (.int .i64 1) := B6.a.c0
  have a1 : w6.cell? ⟨g + 1 + 1 + 1, 1, none⟩ = some (.int .i64 0) := B6.a.c1
  have a2 : w6.cell? ⟨g + 1 + 1 + 1, 2, none⟩ = some (.int .i64 1) := B6.a.c2
  have a3 : w6.cell? ⟨g + 1 + 1 + 1, 3, none⟩ = some (.int .i64 1) := B6.a.c3
  have a4 : w6.cell? ⟨g + 1 + 1 + 1, 4, none⟩ = some (.int .i64 1) := B6.a.c4
  have a5 : w6.cell? ⟨g + 1 + 1 + 1, 5, none⟩ = some (.int .i64 8) := B6.a.c5
  have a6 : w6.cell? ⟨g + 1 + 1 + 1, 6, none⟩ = some ((.slice (some ⟨g, 0, none⟩) 2 2)) := B6.a.c6
  have a7 : w6.cell? ⟨g + 1 + 1 + 1, 7, none⟩ = some ((.slice (some ⟨g + 1, 0, none⟩) 2 2)) := B6.a.c7
  have a8 : w6.cell? ⟨g + 1 + 1 + 1, 8, none⟩ = some ((.slice (some ⟨g + 1 + 1, 0, none⟩) 2 2)) := B6.a.c8
  have alt : g + 1 + 1 + 1 < w6.heap.size := B6.a.lt
  have b0 : w6.cell? ⟨g + 1 + 1 + 1 + 1, 0, none⟩ = some (.int .i64 1) := B6.b.c0
  have b1 : w6.cell? ⟨g + 1 + 1 + 1 + 1, 1, none⟩ = some (.int .i64 1) := B6.b.c1
  have b2 : w6.cell? ⟨g + 1 + 1 + 1 + 1, 2, none⟩ = some (.int .i64 2) := B6.b.c2
  have b3 : w6.cell? ⟨g + 1 + 1 + 1 + 1, 3, none⟩ = some (.int .i64 1) := B6.b.c3
  have b4 : w6.cell? ⟨g + 1 + 1 + 1 + 1, 4, none⟩ = some (.int .i64 1) := B6.b.c4
  have b5 : w6.cell? ⟨g + 1 + 1 + 1 + 1, 5, none⟩ = some (.int .i64 8) := B6.b.c5
  have b6 : w6.cell? ⟨g + 1 + 1 + 1 + 1, 6, none⟩ = some ((.slice (some ⟨g, 0, none⟩) 2 2)) := B6.b.c6
  have b7 : w6.cell? ⟨g + 1 + 1 + 1 + 1, 7, none⟩ = some ((.slice (some ⟨g + 1, 0, none⟩) 2 2)) := B6.b.c7
  have b8 : w6.cell? ⟨g + 1 + 1 + 1 + 1, 8, none⟩ = some ((.slice (some ⟨g + 1 + 1, 0, none⟩) 2 2)) := B6.b.c8
  have blt : g + 1 + 1 + 1 + 1 < w6.heap.size := B6.b.lt
  go_upto_region 9 with (fail)
  clear a0 a1 a2 a3 a4 a5 a6 a7 a8 b0 b1 b2 b3 b4 b5 b6 b7 b8 alt blt
  clear bk B6
  generalize w6.alloc (.cells #[.int .i64 0, .int .i64 0, .int .i64 0, .int .i64 0, .int .i64 0, .int .i64 0, .slice x7 0 y7, .slice x8 0 y8, .slice x9 0 y9] 26) = w7 at *
  obtain ⟨p10, hpp⟩ : ∃ p, w6.heap.size = p := ⟨_, rfl⟩
  rw [hpp] at K10 ⊢
  clear hpp
  clear K10
  have a0 : w7.cell? ⟨g + 1 + 1 + 1, 0, none⟩ = some (.int .i64 1) := B7.a.c0
  have a1 : w7.cell? ⟨g + 1 + 1 + 1, 1, none⟩ = some (.int .i64 0) := B7.a.c1
  have a2 : w7.cell? ⟨g + 1 + 1 + 1, 2, none⟩ = some (.int .i64 1) := B7.a.c2
  have a3 : w7.cell? ⟨g + 1 + 1 + 1, 3, none⟩ = some (.int .i64 1) := B7.a.c3
  have a4 : w7.cell? ⟨g + 1 + 1 + 1, 4, none⟩ = some (.int .i64 1) := B7.a.c4
  have a5 : w7.cell? ⟨g + 1 + 1 + 1, 5, none⟩ = some (.int .i64 8) := B7.a.c5
  have a6 : w7.cell? ⟨g + 1 + 1 + 1, 6, none⟩ = some ((.slice (some ⟨g, 0, none⟩) 2 2)) := B7.a.c6
  have a7 : w7.cell? ⟨g + 1 + 1 + 1, 7, none⟩ = some ((.slice (some ⟨g + 1, 0, none⟩) 2 2)) := B7.a.c7
  have a8 : w7.cell? ⟨g + 1 + 1 + 1, 8, none⟩ = some ((.slice (some ⟨g + 1 + 1, 0, none⟩) 2 2)) := B7.a.c8
  have alt : g + 1 + 1 + 1 < w7.heap.size := B7.a.lt
  have b0 : w7.cell? ⟨g + 1 + 1 + 1 + 1, 0, none⟩ = some (.int .i64 1) := B7.b.c0
  have b1 : w7.cell? ⟨g + 1 + 1 + 1 + 1, 1, none⟩ = some (.int .i64 1) := B7.b.c1
  have b2 : w7.cell? ⟨g + 1 + 1 + 1 + 1, 2, none⟩ = some (.int .i64 2) := B7.b.c2
  have b3 : w7.cell? ⟨g + 1 + 1 + 1 + 1, 3, none⟩ = some (.int .i64 1) := B7.b.c3
  have b4 : w7.cell? ⟨g + 1 + 1 + 1 + 1, 4, none⟩ = some (.int .i64 1) := B7.b.c4
  have b5 : w7.cell? ⟨g + 1 + 1 + 1 + 1, 5, none⟩ = some (.int .i64 8) := B7.b.c5
  have b6 : w7.cell? ⟨g + 1 + 1 + 1 + 1, 6, none⟩ = some ((.slice (some ⟨g, 0, none⟩) 2 2)) := B7.b.c6
  have b7 : w7.cell? ⟨g + 1 + 1 + 1 + 1, 7, none⟩ = some ((.slice (some ⟨g + 1, 0, none⟩) 2 2)) := B7.b.c7
  have b8 : w7.cell? ⟨g + 1 + 1 + 1 + 1, 8, none⟩ = some ((.slice (some ⟨g + 1 + 1, 0, none⟩) 2 2)) := B7.b.c8
  have blt : g + 1 + 1 + 1 + 1 < w7.heap.size := B7.b.lt
  have bu : Below w7.heap.size w7 (w7.alloc (.cells #[.bool true, .bool false] 4)) := (Below.refl _ _).alloc (Nat.le_refl _) _
  have ru := lit_reads w7 4 (([true, false] : List Bool).map .bool) 2
  have cN := next_any lA [true, false] (.slice (some ⟨g, 0, none⟩) 2 2) (.slice (some ⟨g + 1, 0, none⟩) 2 2) (.slice (some ⟨g + 1 + 1, 0, none⟩) 2 2) _ _ (B7.r.below bu) ru (by decide)
  rw [nA.1, nA.2] at cN
  go_wp2_with (fail)
  refine cN.mono ?_
  rintro e w8 ⟨va, vb, vc, rfl, o8, b8⟩
  have bb := below_c bu b8
  have B8 := B7.step bb
  replace K5 := K5.below bb K5.lt
  replace K7 := K7.below bb K7.lt
  replace L5 := L5.below bb
  replace L7 := L7.below bb
  replace U7 := U7.below bb
  have L13 := o8.lr (by decide) (by decide) (by decide)
  obtain ⟨xa, ya, ev⟩ := L13.s.isSlice
  change va = .slice xa 2 ya at ev
  subst ev
  obtain ⟨xb, yb, ev⟩ := L13.b.isSlice
  change vb = .slice xb 2 yb at ev
  subst ev
  obtain ⟨xc, yc, ev⟩ := L13.c.isSlice
  change vc = .slice xc 2 yc at ev
  subst ev
  clear cN ru bu o8 b8 bb B7
  clear a0 a1 a2 a3 a4 a5 a6 a7 a8 b0 b1 b2 b3 b4 b5 b6 b7 b8 alt blt
  simp only [Lbl.v, lN]
  have K13 : LblAt (w8.alloc (.cells #[.int .i64 1, .int .i64 0, .int .i64 2, .int .i64 1, .int .i64 1, .int .i64 8, .slice xa 2 ya, .slice xb 2 yb, .slice xc 2 yc] 26)) w8.heap.size lN (.slice xa 2 ya) (.slice xb 2 yb) (.slice xc 2 yc) := LblAt.made w8 lN _ _ _ 26
  have bk : Below w8.heap.size w8 (w8.alloc (.cells #[.int .i64 1, .int .i64 0, .int .i64 2, .int .i64 1, .int .i64 1, .int .i64 8, .slice xa 2 ya, .slice xb 2 yb, .slice xc 2 yc] 26)) := (Below.refl _ _).alloc (Nat.le_refl _) _
  have B9 := B8.step bk
  replace K5 := K5.below bk K5.lt
  replace L5 := L5.below bk
  replace K7 := K7.below bk K7.lt
  replace L7 := L7.below bk
  replace U7 := U7.below bk
  replace L13 := L13.below bk
  have a0 : w8.cell? ⟨g + 1 + 1 + 1, 0, none⟩ = some (.int .i64 1) := B8.a.c0
  have a1 : w8.cell? ⟨g + 1 + 1 + 1, 1, none⟩ = some (.int .i64 0) := B8.a.c1
  have a2 : w8.cell? ⟨g + 1 + 1 + 1, 2, none⟩ = some (.int .i64 1) := B8.a.c2
  have a3 : w8.cell? ⟨g + 1 + 1 + 1, 3, none⟩ = some (.int .i64 1) := B8.a.c3
  have a4 : w8.cell? ⟨g + 1 + 1 + 1, 4, none⟩ = some (.int .i64 1) := B8.a.c4
  have a5 : w8.cell? ⟨g + 1 + 1 + 1, 5, none⟩ = some (.int .i64 8) := B8.a.c5
  have a6 : w8.cell? ⟨g + 1 + 1 + 1, 6, none⟩ = some ((.slice (some ⟨g, 0, none⟩) 2 2)) := B8.a.c6
  have a7 : w8.cell? ⟨g + 1 + 1 + 1, 7, none⟩ = some ((.slice (some ⟨g + 1, 0, none⟩) 2 2)) := B8.a.c7
  have a8 : w8.cell? ⟨g + 1 + 1 + 1, 8, none⟩ = some ((.slice (some ⟨g + 1 + 1, 0, none⟩) 2 2)) := B8.a.c8
  have alt : g + 1 + 1 + 1 < w8.heap.size := B8.a.lt
  have b0 : w8.cell? ⟨g + 1 + 1 + 1 + 1, 0, none⟩ = some (.int .i64 1) := B8.b.c0
  have b1 : w8.cell? ⟨g + 1 + 1 + 1 + 1, 1, none⟩ = some (.int .i64 1) := B8.b.c1
  have b2 : w8.cell? ⟨g + 1 + 1 + 1 + 1, 2, none⟩ = some (.int .i64 2) := B8.b.c2
  have b3 : w8.cell? ⟨g + 1 + 1 + 1 + 1, 3, none⟩ = some (.int .i64 1) := B8.b.c3
  have b4 : w8.cell? ⟨g + 1 + 1 + 1 + 1, 4, none⟩ = some (.int .i64 1) := B8.b.c4
  have b5 : w8.cell? ⟨g + 1 + 1 + 1 + 1, 5, none⟩ = some (.int .i64 8) := B8.b.c5
  have b6 : w8.cell? ⟨g + 1 + 1 + 1 + 1, 6, none⟩ = some ((.slice (some ⟨g, 0, none⟩) 2 2)) := B8.b.c6
  have b7 : w8.cell? ⟨g + 1 + 1 + 1 + 1, 7, none⟩ = some ((.slice (some ⟨g + 1, 0, none⟩) 2 2)) := B8.b.c7
  have b8 : w8.cell? ⟨g + 1 + 1 + 1 + 1, 8, none⟩ = some ((.slice (some ⟨g + 1 + 1, 0, none⟩) 2 2)) := B8.b.c8
  have blt : g + 1 + 1 + 1 + 1 < w8.heap.size := B8.b.lt
  go_upto_region 10 with (fail)
  clear a0 a1 a2 a3 a4 a5 a6 a7 a8 b0 b1 b2 b3 b4 b5 b6 b7 b8 alt blt
  clear bk B8
  generalize w8.alloc (.cells #[.int .i64 1, .int .i64 0, .int .i64 2, .int .i64 1, .int .i64 1, .int .i64 8, .slice xa 2 ya, .slice xb 2 yb, .slice xc 2 yc] 26) = w9 at *
  obtain ⟨p13, hpp⟩ : ∃ p, w8.heap.size = p := ⟨_, rfl⟩
  rw [hpp] at K13 ⊢
  clear hpp
  have hs32 : (((S.size : Nat) : Int) == 32) = true := by rw [hS3.out]; rfl
  have a0 : w9.cell? ⟨g + 1 + 1 + 1, 0, none⟩ = some (.int .i64 1) := B9.a.c0
  have a1 : w9.cell? ⟨g + 1 + 1 + 1, 1, none⟩ = some (.int .i64 0) := B9.a.c1
  have a2 : w9.cell? ⟨g + 1 + 1 + 1, 2, none⟩ = some (.int .i64 1) := B9.a.c2
  have a3 : w9.cell? ⟨g + 1 + 1 + 1, 3, none⟩ = some (.int .i64 1) := B9.a.c3
  have a4 : w9.cell? ⟨g + 1 + 1 + 1, 4, none⟩ = some (.int .i64 1) := B9.a.c4
  have a5 : w9.cell? ⟨g + 1 + 1 + 1, 5, none⟩ = some (.int .i64 8) := B9.a.c5
  have a6 : w9.cell? ⟨g + 1 + 1 + 1, 6, none⟩ = some ((.slice (some ⟨g, 0, none⟩) 2 2)) := B9.a.c6
  have a7 : w9.cell? ⟨g + 1 + 1 + 1, 7, none⟩ = some ((.slice (some ⟨g + 1, 0, none⟩) 2 2)) := B9.a.c7
  have a8 : w9.cell? ⟨g + 1 + 1 + 1, 8, none⟩ = some ((.slice (some ⟨g + 1 + 1, 0, none⟩) 2 2)) := B9.a.c8
  have alt : g + 1 + 1 + 1 < w9.heap.size := B9.a.lt
  have b0 : w9.cell? ⟨g + 1 + 1 + 1 + 1, 0, none⟩ = some (.int .i64 1) := B9.b.c0
  have b1 : w9.cell? ⟨g + 1 + 1 + 1 + 1, 1, none⟩ = some (.int .i64 1) := B9.b.c1
  have b2 : w9.cell? ⟨g + 1 + 1 + 1 + 1, 2, none⟩ = some (.int .i64 2) := B9.b.c2
  have b3 : w9.cell? ⟨g + 1 + 1 + 1 + 1, 3, none⟩ = some (.int .i64 1) := B9.b.c3
  have b4 : w9.cell? ⟨g + 1 + 1 + 1 + 1, 4, none⟩ = some (.int .i64 1) := B9.b.c4
  have b5 : w9.cell? ⟨g + 1 + 1 + 1 + 1, 5, none⟩ = some (.int .i64 8) := B9.b.c5
  have b6 : w9.cell? ⟨g + 1 + 1 + 1 + 1, 6, none⟩ = some ((.slice (some ⟨g, 0, none⟩) 2 2)) := B9.b.c6
  have b7 : w9.cell? ⟨g + 1 + 1 + 1 + 1, 7, none⟩ = some ((.slice (some ⟨g + 1, 0, none⟩) 2 2)) := B9.b.c7
  have b8 : w9.cell? ⟨g + 1 + 1 + 1 + 1, 8, none⟩ = some ((.slice (some ⟨g + 1 + 1, 0, none⟩) 2 2)) := B9.b.c8
  have blt : g + 1 + 1 + 1 + 1 < w9.heap.size := B9.b.lt
  have cX : Calls Tryd.prog 15 #[.agg #[.int .i64 1, .int .i64 0, .int .i64 1, .int .i64 1, .int .i64 1, .int .i64 8, (.slice (some ⟨g, 0, none⟩) 2 2), (.slice (some ⟨g + 1, 0, none⟩) 2 2), (.slice (some ⟨g + 1 + 1, 0, none⟩) 2 2)]] w9 (Tells w9 (.bool true)) := by have := lright_any lA (.slice (some ⟨g, 0, none⟩) 2 2) (.slice (some ⟨g + 1, 0, none⟩) 2 2) (.slice (some ⟨g + 1 + 1, 0, none⟩) 2 2) w9 B9.r; rw [rA] at this; exact this
  go_wp2_with (fail)
  refine cX.mono ?_
  rintro e w10 ⟨rfl, bx⟩
  have B10 := B9.step bx
  replace K5 := K5.below bx K5.lt
  replace L5 := L5.below bx
  replace K7 := K7.below bx K7.lt
  replace L7 := L7.below bx
  replace U7 := U7.below bx
  replace K13 := K13.below bx K13.lt
  replace L13 := L13.below bx
  clear a0 a1 a2 a3 a4 a5 a6 a7 a8 b0 b1 b2 b3 b4 b5 b6 b7 b8 alt blt
  clear cX bx B9
  have a0 : w10.cell? ⟨g + 1 + 1 + 1, 0, none⟩ = some (.int .i64 1) := B10.a.c0
  have a1 : w10.cell? ⟨g + 1 + 1 + 1, 1, none⟩ = some (.int .i64 0) := B10.a.c1
  have a2 : w10.cell? ⟨g + 1 + 1 + 1, 2, none⟩ = some (.int .i64 1) := B10.a.c2
  have a3 : w10.cell? ⟨g + 1 + 1 + 1, 3, none⟩ = some (.int .i64 1) := B10.a.c3
  have a4 : w10.cell? ⟨g + 1 + 1 + 1, 4, none⟩ = some (.int .i64 1) := B10.a.c4
  have a5 : w10.cell? ⟨g + 1 + 1 + 1, 5, none⟩ = some (.int .i64 8) := B10.a.c5
  have a6 : w10.cell? ⟨g + 1 + 1 + 1, 6, none⟩ = some ((.slice (some ⟨g, 0, none⟩) 2 2)) := B10.a.c6
  have a7 : w10.cell? ⟨g + 1 + 1 + 1, 7, none⟩ = some ((.slice (some ⟨g + 1, 0, none⟩) 2 2)) := B10.a.c7
  have a8 : w10.cell? ⟨g + 1 + 1 + 1, 8, none⟩ = some ((.slice (some ⟨g + 1 + 1, 0, none⟩) 2 2)) := B10.a.c8
  have alt : g + 1 + 1 + 1 < w10.heap.size := B10.a.lt
  have b0 : w10.cell? ⟨g + 1 + 1 + 1 + 1, 0, none⟩ = some (.int .i64 1) := B10.b.c0
  have b1 : w10.cell? ⟨g + 1 + 1 + 1 + 1, 1, none⟩ = some (.int .i64 1) := B10.b.c1
  have b2 : w10.cell? ⟨g + 1 + 1 + 1 + 1, 2, none⟩ = some (.int .i64 2) := B10.b.c2
  have b3 : w10.cell? ⟨g + 1 + 1 + 1 + 1, 3, none⟩ = some (.int .i64 1) := B10.b.c3
  have b4 : w10.cell? ⟨g + 1 + 1 + 1 + 1, 4, none⟩ = some (.int .i64 1) := B10.b.c4
  have b5 : w10.cell? ⟨g + 1 + 1 + 1 + 1, 5, none⟩ = some (.int .i64 8) := B10.b.c5
  have b6 : w10.cell? ⟨g + 1 + 1 + 1 + 1, 6, none⟩ = some ((.slice (some ⟨g, 0, none⟩) 2 2)) := B10.b.c6
  have b7 : w10.cell? ⟨g + 1 + 1 + 1 + 1, 7, none⟩ = some ((.slice (some ⟨g + 1, 0, none⟩) 2 2)) := B10.b.c7
  have b8 : w10.cell? ⟨g + 1 + 1 + 1 + 1, 8, none⟩ = some ((.slice (some ⟨g + 1 + 1, 0, none⟩) 2 2)) := B10.b.c8
  have blt : g + 1 + 1 + 1 + 1 < w10.heap.size := B10.b.lt
  have k0 : w10.cell? ⟨p5, 0, none⟩ = some (.int .i64 1) := K5.c0
  have k1 : w10.cell? ⟨p5, 1, none⟩ = some (.int .i64 0) := K5.c1
  have k2 : w10.cell? ⟨p5, 2, none⟩ = some (.int .i64 1) := K5.c2
  have k3 : w10.cell? ⟨p5, 3, none⟩ = some (.int .i64 1) := K5.c3
  have k4 : w10.cell? ⟨p5, 4, none⟩ = some (.int .i64 1) := K5.c4
  have k5 : w10.cell? ⟨p5, 5, none⟩ = some (.int .i64 8) := K5.c5
  have k6 : w10.cell? ⟨p5, 6, none⟩ = some (.slice x1 2 y1) := K5.c6
  have k7 : w10.cell? ⟨p5, 7, none⟩ = some (.slice x2 2 y2) := K5.c7
  have k8 : w10.cell? ⟨p5, 8, none⟩ = some (.slice x3 2 y3) := K5.c8
  have klt : p5 < w10.heap.size := K5.lt
  have cX : Calls Tryd.prog 18 #[.agg #[.int .i64 1, .int .i64 0, .int .i64 1, .int .i64 1, .int .i64 1, .int .i64 8, .slice x1 2 y1, .slice x2 2 y2, .slice x3 2 y3], .agg #[.int .i64 1, .int .i64 0, .int .i64 1, .int .i64 1, .int .i64 1, .int .i64 8, (.slice (some ⟨g, 0, none⟩) 2 2), (.slice (some ⟨g + 1, 0, none⟩) 2 2), (.slice (some ⟨g + 1 + 1, 0, none⟩) 2 2)]] w10 (Tells w10 (.bool true)) := by have := rsame_any lA lA _ _ _ (.slice (some ⟨g, 0, none⟩) 2 2) (.slice (some ⟨g + 1, 0, none⟩) 2 2) (.slice (some ⟨g + 1 + 1, 0, none⟩) 2 2) w10 L5 B10.r; rw [decide_eq_true (Eq.refl lA)] at this; exact this
  go_wp2_with (fail)
  refine cX.mono ?_
  rintro e w11 ⟨rfl, bx⟩
  have B11 := B10.step bx
  replace K5 := K5.below bx K5.lt
  replace L5 := L5.below bx
  replace K7 := K7.below bx K7.lt
  replace L7 := L7.below bx
  replace U7 := U7.below bx
  replace K13 := K13.below bx K13.lt
  replace L13 := L13.below bx
  clear a0 a1 a2 a3 a4 a5 a6 a7 a8 b0 b1 b2 b3 b4 b5 b6 b7 b8 alt blt
  clear cX bx B10
  clear k0 k1 k2 k3 k4 k5 k6 k7 k8 klt
  have a0 : w11.cell? ⟨g + 1 + 1 + 1, 0, none⟩ = some (.int .i64 1) := B11.a.c0
  have a1 : w11.cell? ⟨g + 1 + 1 + 1, 1, none⟩ = some (.int .i64 0) := B11.a.c1
  have a2 : w11.cell? ⟨g + 1 + 1 + 1, 2, none⟩ = some (.int .i64 1) := B11.a.c2
  have a3 : w11.cell? ⟨g + 1 + 1 + 1, 3, none⟩ = some (.int .i64 1) := B11.a.c3
  have a4 : w11.cell? ⟨g + 1 + 1 + 1, 4, none⟩ = some (.int .i64 1) := B11.a.c4
  have a5 : w11.cell? ⟨g + 1 + 1 + 1, 5, none⟩ = some (.int .i64 8) := B11.a.c5
  have a6 : w11.cell? ⟨g + 1 + 1 + 1, 6, none⟩ = some ((.slice (some ⟨g, 0, none⟩) 2 2)) := B11.a.c6
  have a7 : w11.cell? ⟨g + 1 + 1 + 1, 7, none⟩ = some ((.slice (some ⟨g + 1, 0, none⟩) 2 2)) := B11.a.c7
  have a8 : w11.cell? ⟨g + 1 + 1 + 1, 8, none⟩ = some ((.slice (some ⟨g + 1 + 1, 0, none⟩) 2 2)) := B11.a.c8
  have alt : g + 1 + 1 + 1 < w11.heap.size := B11.a.lt
  have b0 : w11.cell? ⟨g + 1 + 1 + 1 + 1, 0, none⟩ = some (.int .i64 1) := B11.b.c0
  have b1 : w11.cell? ⟨g + 1 + 1 + 1 + 1, 1, none⟩ = some (.int .i64 1) := B11.b.c1
  have b2 : w11.cell? ⟨g + 1 + 1 + 1 + 1, 2, none⟩ = some (.int .i64 2) := B11.b.c2
  have b3 : w11.cell? ⟨g + 1 + 1 + 1 + 1, 3, none⟩ = some (.int .i64 1) := B11.b.c3
  have b4 : w11.cell? ⟨g + 1 + 1 + 1 + 1, 4, none⟩ = some (.int .i64 1) := B11.b.c4
  have b5 : w11.cell? ⟨g + 1 + 1 + 1 + 1, 5, none⟩ = some (.int .i64 8) := B11.b.c5
  have b6 : w11.cell? ⟨g + 1 + 1 + 1 + 1, 6, none⟩ = some ((.slice (some ⟨g, 0, none⟩) 2 2)) := B11.b.c6
  have b7 : w11.cell? ⟨g + 1 + 1 + 1 + 1, 7, none⟩ = some ((.slice (some ⟨g + 1, 0, none⟩) 2 2)) := B11.b.c7
  have b8 : w11.cell? ⟨g + 1 + 1 + 1 + 1, 8, none⟩ = some ((.slice (some ⟨g + 1 + 1, 0, none⟩) 2 2)) := B11.b.c8
  have blt : g + 1 + 1 + 1 + 1 < w11.heap.size := B11.b.lt
  have k0 : w11.cell? ⟨p5, 0, none⟩ = some (.int .i64 1) := K5.c0
  have k1 : w11.cell? ⟨p5, 1, none⟩ = some (.int .i64 0) := K5.c1
  have k2 : w11.cell? ⟨p5, 2, none⟩ = some (.int .i64 1) := K5.c2
  have k3 : w11.cell? ⟨p5, 3, none⟩ = some (.int .i64 1) := K5.c3
  have k4 : w11.cell? ⟨p5, 4, none⟩ = some (.int .i64 1) := K5.c4
  have k5 : w11.cell? ⟨p5, 5, none⟩ = some (.int .i64 8) := K5.c5
  have k6 : w11.cell? ⟨p5, 6, none⟩ = some (.slice x1 2 y1) := K5.c6
  have k7 : w11.cell? ⟨p5, 7, none⟩ = some (.slice x2 2 y2) := K5.c7
  have k8 : w11.cell? ⟨p5, 8, none⟩ = some (.slice x3 2 y3) := K5.c8
  have klt : p5 < w11.heap.size := K5.lt
  have cX : Calls Tryd.prog 17 #[.agg #[.int .i64 1, .int .i64 0, .int .i64 1, .int .i64 1, .int .i64 1, .int .i64 8, .slice x1 2 y1, .slice x2 2 y2, .slice x3 2 y3], .agg #[.int .i64 1, .int .i64 0, .int .i64 1, .int .i64 1, .int .i64 1, .int .i64 8, (.slice (some ⟨g, 0, none⟩) 2 2), (.slice (some ⟨g + 1, 0, none⟩) 2 2), (.slice (some ⟨g + 1 + 1, 0, none⟩) 2 2)]] w11 (Tells w11 (.bool true)) := by have := lsame_any lA lA _ _ _ (.slice (some ⟨g, 0, none⟩) 2 2) (.slice (some ⟨g + 1, 0, none⟩) 2 2) (.slice (some ⟨g + 1 + 1, 0, none⟩) 2 2) w11 L5 B11.r; rw [decide_eq_true (Eq.refl lA)] at this; exact this
  go_wp2_with (fail)
  refine cX.mono ?_
  rintro e w12 ⟨rfl, bx⟩
  have B12 := B11.step bx
  replace K5 := K5.below bx K5.lt
  replace L5 := L5.below bx
  replace K7 := K7.below bx K7.lt
  replace L7 := L7.below bx
  replace U7 := U7.below bx
  replace K13 := K13.below bx K13.lt
  replace L13 := L13.below bx
  clear a0 a1 a2 a3 a4 a5 a6 a7 a8 b0 b1 b2 b3 b4 b5 b6 b7 b8 alt blt
  clear cX bx B11
  clear k0 k1 k2 k3 k4 k5 k6 k7 k8 klt
  have a0 : w12.cell? ⟨g + 1 + 1 + 1, 0, none⟩ = some (.int .i64 1) := B12.a.c0
  have a1 : w12.cell? ⟨g + 1 + 1 + 1, 1, none⟩ = some (.int .i64 0) := B12.a.c1
  have a2 : w12.cell? ⟨g + 1 + 1 + 1, 2, none⟩ = some (.int .i64 1) := B12.a.c2
  have a3 : w12.cell? ⟨g + 1 + 1 + 1, 3, none⟩ = some (.int .i64 1) := B12.a.c3
  have a4 : w12.cell? ⟨g + 1 + 1 + 1, 4, none⟩ = some (.int .i64 1) := B12.a.c4
  have a5 : w12.cell? ⟨g + 1 + 1 + 1, 5, none⟩ = some (.int .i64 8) := B12.a.c5
  have a6 : w12.cell? ⟨g + 1 + 1 + 1, 6, none⟩ = some ((.slice (some ⟨g, 0, none⟩) 2 2)) := B12.a.c6
  have a7 : w12.cell? ⟨g + 1 + 1 + 1, 7, none⟩ = some ((.slice (some ⟨g + 1, 0, none⟩) 2 2)) := B12.a.c7
  have a8 : w12.cell? ⟨g + 1 + 1 + 1, 8, none⟩ = some ((.slice (some ⟨g + 1 + 1, 0, none⟩) 2 2)) := B12.a.c8
  have alt : g + 1 + 1 + 1 < w12.heap.size := B12.a.lt
  have b0 : w12.cell? ⟨g + 1 + 1 + 1 + 1, 0, none⟩ = some (.int .i64 1) := B12.b.c0
  have b1 : w12.cell? ⟨g + 1 + 1 + 1 + 1, 1, none⟩ = some (.int .i64 1) := B12.b.c1
  have b2 : w12.cell? ⟨g + 1 + 1 + 1 + 1, 2, none⟩ = some (.int .i64 2) := B12.b.c2
  have b3 : w12.cell? ⟨g + 1 + 1 + 1 + 1, 3, none⟩ = some (.int .i64 1) := B12.b.c3
  have b4 : w12.cell? ⟨g + 1 + 1 + 1 + 1, 4, none⟩ = some (.int .i64 1) := B12.b.c4
  have b5 : w12.cell? ⟨g + 1 + 1 + 1 + 1, 5, none⟩ = some (.int .i64 8) := B12.b.c5
  have b6 : w12.cell? ⟨g + 1 + 1 + 1 + 1, 6, none⟩ = some ((.slice (some ⟨g, 0, none⟩) 2 2)) := B12.b.c6
  have b7 : w12.cell? ⟨g + 1 + 1 + 1 + 1, 7, none⟩ = some ((.slice (some ⟨g + 1, 0, none⟩) 2 2)) := B12.b.c7
  have b8 : w12.cell? ⟨g + 1 + 1 + 1 + 1, 8, none⟩ = some ((.slice (some ⟨g + 1 + 1, 0, none⟩) 2 2)) := B12.b.c8
  have blt : g + 1 + 1 + 1 + 1 < w12.heap.size := B12.b.lt
  have m0 : w12.cell? ⟨p7, 0, none⟩ = some (.int .i64 1) := K7.c0
  have m1 : w12.cell? ⟨p7, 1, none⟩ = some (.int .i64 1) := K7.c1
  have m2 : w12.cell? ⟨p7, 2, none⟩ = some (.int .i64 2) := K7.c2
  have m3 : w12.cell? ⟨p7, 3, none⟩ = some (.int .i64 1) := K7.c3
  have m4 : w12.cell? ⟨p7, 4, none⟩ = some (.int .i64 1) := K7.c4
  have m5 : w12.cell? ⟨p7, 5, none⟩ = some (.int .i64 8) := K7.c5
  have m6 : w12.cell? ⟨p7, 6, none⟩ = some (.slice x4 2 y4) := K7.c6
  have m7 : w12.cell? ⟨p7, 7, none⟩ = some (.slice x5 2 y5) := K7.c7
  have m8 : w12.cell? ⟨p7, 8, none⟩ = some (.slice x6 2 y6) := K7.c8
  have mlt : p7 < w12.heap.size := K7.lt
  have cX : Calls Tryd.prog 18 #[.agg #[.int .i64 1, .int .i64 1, .int .i64 2, .int .i64 1, .int .i64 1, .int .i64 8, .slice x4 2 y4, .slice x5 2 y5, .slice x6 2 y6], .agg #[.int .i64 1, .int .i64 1, .int .i64 2, .int .i64 1, .int .i64 1, .int .i64 8, (.slice (some ⟨g, 0, none⟩) 2 2), (.slice (some ⟨g + 1, 0, none⟩) 2 2), (.slice (some ⟨g + 1 + 1, 0, none⟩) 2 2)]] w12 (Tells w12 (.bool true)) := by have := rsame_any lB lB _ _ _ (.slice (some ⟨g, 0, none⟩) 2 2) (.slice (some ⟨g + 1, 0, none⟩) 2 2) (.slice (some ⟨g + 1 + 1, 0, none⟩) 2 2) w12 L7 B12.s; rw [decide_eq_true (Eq.refl lB)] at this; exact this
  go_wp2_with (fail)
  refine cX.mono ?_
  rintro e w13 ⟨rfl, bx⟩
  have B13 := B12.step bx
  replace K5 := K5.below bx K5.lt
  replace L5 := L5.below bx
  replace K7 := K7.below bx K7.lt
  replace L7 := L7.below bx
  replace U7 := U7.below bx
  replace K13 := K13.below bx K13.lt
  replace L13 := L13.below bx
  clear a0 a1 a2 a3 a4 a5 a6 a7 a8 b0 b1 b2 b3 b4 b5 b6 b7 b8 alt blt
  clear cX bx B12
  clear m0 m1 m2 m3 m4 m5 m6 m7 m8 mlt
  have bu : Below w13.heap.size w13 (w13.alloc (.cells #[.bool true, .bool true] 4)) := (Below.refl _ _).alloc (Nat.le_refl _) _
  have ru := lit_reads w13 4 (([true, true] : List Bool).map .bool) 2
  have cU := bools_any _ _ [true, true] [true, true] _ (U7.below bu) ru (by decide)
  rw [decide_eq_true (Eq.refl _)] at cU
  go_wp2_with (fail)
  refine cU.mono ?_
  rintro e wZ ⟨rfl, bz⟩
  have bb := below_c bu bz
  have Bz := B13.step bb
  replace K13 := K13.below bb K13.lt
  replace L13 := L13.below bb
  clear cU ru bu bz bb B13 K5 L5 K7 L7 U7
  have n0 : wZ.cell? ⟨p13, 0, none⟩ = some (.int .i64 1) := K13.c0
  have n1 : wZ.cell? ⟨p13, 1, none⟩ = some (.int .i64 0) := K13.c1
  have n2 : wZ.cell? ⟨p13, 2, none⟩ = some (.int .i64 2) := K13.c2
  have n3 : wZ.cell? ⟨p13, 3, none⟩ = some (.int .i64 1) := K13.c3
  have n4 : wZ.cell? ⟨p13, 4, none⟩ = some (.int .i64 1) := K13.c4
  have n5 : wZ.cell? ⟨p13, 5, none⟩ = some (.int .i64 8) := K13.c5
  have n6 : wZ.cell? ⟨p13, 6, none⟩ = some (.slice xa 2 ya) := K13.c6
  have n7 : wZ.cell? ⟨p13, 7, none⟩ = some (.slice xb 2 yb) := K13.c7
  have n8 : wZ.cell? ⟨p13, 8, none⟩ = some (.slice xc 2 yc) := K13.c8
  have nlt : p13 < wZ.heap.size := K13.lt
  obtain ⟨ja, jc, jr, jn⟩ := L13.s.nums
  obtain ⟨jb, jo, rfl, jlt, jcell⟩ := jn 1 (by decide)
  obtain ⟨rfl, _⟩ : xa = some ⟨jb, jo, none⟩ ∧ ya = jc := by simpa [lN] using jr
  have jc1 : wZ.cell? ⟨jb, jo + 1, none⟩ = some (.int .i64 0) := jcell
  go_wp2_with (fail)
  go_ret
  exact ⟨rfl, by rw [hg.out]; exact Bz.bel⟩
end Go.Proofs.YtaopknddpagjeaaDoor
