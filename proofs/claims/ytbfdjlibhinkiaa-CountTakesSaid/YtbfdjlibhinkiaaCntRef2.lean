/- count: the document's own Lay and Of. -/
import Derived.Test.YtbfdjlibhinkiaaCntRef
import Derived.Test.YtbfdjlibhinkiaaCntOf
namespace Go.Proofs.Ytbfdjlibhinkiaa
open Go.RowKit
set_option linter.unusedVariables false
set_option linter.unusedSimpArgs false

/-- 240 bytes. -/
def bl (D : Nat → Nat) : List UInt8 := (List.range 240).map fun i => UInt8.ofNat (D i)
theorem bl_len (D : Nat → Nat) : (bl D).length = 240 := by simp [bl]
theorem bl_set (D : Nat → Nat) (i v : Nat) (hi : i < 240) : (bl D).set i (UInt8.ofNat v) = bl (upd D i v) := by
  apply List.ext_getElem
  · simp [bl]
  · intro j h1 h2
    rw [List.getElem_set]
    simp only [bl, List.getElem_map, List.getElem_range, upd]
    by_cases e : i = j
    · subst e; rw [if_pos rfl, if_pos rfl]
    · rw [if_neg e, if_neg (fun x => e x.symm)]
theorem bl_zero : List.replicate 240 (0 : UInt8) = bl fun _ => 0 := by
  rw [bl, show (fun i => UInt8.ofNat ((fun _ => 0 : Nat → Nat) i)) = fun _ => (0 : UInt8) from rfl, List.map_const', List.length_range]
theorem byte_nat (v : Nat) (h : v ≤ 255) : ((UInt8.ofNat v).toNat : Int) = (v : Int) := by simp; omega
theorem bl_get (D : Nat → Nat) (i : Nat) (hi : i < 240) (hD : D i ≤ 255) : (((bl D).getD i 0).toNat : Nat) = D i := by
  simp [bl, List.getD_eq_getElem?_getD, hi]; omega
theorem row_conv {g : Nat} {D : Nat → Nat} {w : World} (h : BRow w g (bl D)) (hD : ∀ i, D i ≤ 255) (a cap : Nat) (ha : a + 120 ≤ 240) :
    (convert 48 9 (.slice (some ⟨g, a, none⟩) 120 cap)).run Try.prog w = .ok (.string (layS D a)) w := by
  have := run_convert_bytes_back (P := Try.prog) w 48 9 5 ⟨g, a, none⟩ cap (bytesC D a) Try.underlying48 Try.underlying5 Try.underlying9 (fun j hj => by
    rw [bytesC_len] at hj
    rw [addr_at, h.cell (by rw [bl_len]; omega), bl_get D (a + j) (by omega) (hD _)]
    have hc := hD (a + j)
    have : ((UInt8.ofNat (D (a + j))).toNat) = D (a + j) := by simp; omega
    simp [bytesC, this])
  rw [bytesC_len] at this
  exact this
theorem half_lo (g : Nat) (W : World) : (Instr.sliceAt 48 (.slice (some ⟨g, 0, none⟩) 240 240) none (some (.int .i64 120)) none).run Try.prog W = .ok (.slice (some ⟨g, 0, none⟩) 120 240) W := by
  simp [Instr.sliceAt, Instr.slice, Instr.sureAddr, run_underlying Try.underlying48, Instr.sliceBounds, Instr.sliceBound, asIntOf, asAddr]
  exact addr_at _ _ _
theorem half_hi (g : Nat) (W : World) : (Instr.sliceAt 48 (.slice (some ⟨g, 0, none⟩) 240 240) (some (.int .i64 120)) none none).run Try.prog W = .ok (.slice (some ⟨g, 120, none⟩) 120 120) W := by
  simp [Instr.sliceAt, Instr.slice, Instr.sureAddr, run_underlying Try.underlying48, Instr.sliceBounds, Instr.sliceBound, asIntOf, asAddr]
  exact addr_at _ _ _
def upto (C : Nat → Nat) (k : Nat) : Nat → Nat := fun j => if j < k then C j else 0
theorem upto_succ (C : Nat → Nat) (k : Nat) : upd (upto C k) k (C k) = upto C (k + 1) := by
  funext j; simp only [upd, upto]
  by_cases e : j = k
  · subst e; rw [if_pos rfl, if_pos (by omega)]
  · rw [if_neg e]
    by_cases h : j < k
    · rw [if_pos h, if_pos (by omega)]
    · rw [if_neg h, if_neg (by omega)]
theorem upto_all {C : Nat → Nat} {n : Nat} (h : ∀ i, n ≤ i → C i = 0) : upto C n = C := by
  funext j; unfold upto
  by_cases e : j < n
  · rw [if_pos e]
  · rw [if_neg e, h j (by omega)]
def LaysR (w : World) (C : Nat → Nat) (e : Ending) (w' : World) : Prop := ∃ v, e = .returned v ∧ Below w.heap.size w w' ∧ Reads w' v [.string (layS C 0), .string (layS C 120)]
set_option maxRecDepth 100000 in
set_option maxHeartbeats 2000000 in
theorem rlay_any (p h n : Nat) (C : Nat → Nat) (w : World) (t : RTab w p h n C) (hS : Small n C) : Calls Try.prog 29 #[.pointer (some ⟨p, 0, none⟩)] w (LaysR w C) := by
  obtain ⟨w1, hmk, r1, b1, _⟩ := BRow.make_run w 240 (by omega)
  rw [show ((240 : Nat) : Int) = 240 from rfl] at hmk
  have n2 := hS.n200
  obtain ⟨gb, hgb⟩ : ∃ gb, w.heap.size = gb := ⟨_, rfl⟩
  have t1 := t.below b1 t.pl
  have hgp : p < gb := by have := t.pl; omega
  have hgh : h < gb := by have := t.hl; omega
  have HB := Lib.hid hgb
  have hgw : w.heap.size ≤ gb := by omega
  rw [hgb] at hmk r1
  rw [bl_zero, show (fun _ => 0 : Nat → Nat) = upto C 0 from by funext j; simp [upto]] at r1
  clear hgb t
  go_enter Try.func29, Try.ntmps29
  go_wp2_with (fail)
  clear hmk
  go_loopw [4] (fun i wr => ∃ k : Nat, k ≤ n ∧ i = .int .i64 (k : Int) ∧ Below w.heap.size w wr ∧ RTab wr p h n C ∧ BRow wr gb (bl (upto C k))) (fun i _ => n - (intOf i).toNat)
  case atStart => exact ⟨0, by omega, rfl, b1, t1, r1⟩
  case round =>
    obtain ⟨k, hk, rfl, hB, hT, hR⟩ := hrel
    rename World => wr
    have pc := hT.pc
    by_cases hlt : k < n
    · have x1 : (k : Int) < (n : Int) := by omega
      have x2 : (k : Int) < 240 := by omega
      have c := hT.c k hlt
      have hc := hS.c k
      have bc := hR.cell (i := k) (by rw [bl_len]; omega)
      have bf := hR.frozen k
      have hset := hR.set (i := k) (by rw [bl_len]; omega) (UInt8.ofNat (C k)) ((C k : Nat) : Int) (byte_nat _ hc).symm
      rw [bl_set _ _ _ (by omega), upto_succ] at hset
      have hw : IntKind.u8.wrap ((C k : Nat) : Int) = ((C k : Nat) : Int) := by simp [IntKind.wrap, IntKind.bits, IntKind.signed]; omega
      have hT2 : RTab (wr.setCell ⟨gb, k, none⟩ (.int .u8 ((C k : Nat) : Int))) p h n C := hT.heap (Below.heap_setCell _ _ _ _ (by show p ≠ gb; omega)) (Below.heap_setCell _ _ _ _ (by show h ≠ gb; omega)) (by simp)
      have hB2 := hB.setCell (p := ⟨gb, k, none⟩) (by show w.heap.size ≤ gb; exact hgw) (.int .u8 ((C k : Nat) : Int))
      generalize (bl (upto C k)).getD k 0 = old at *
      generalize C k = x at *
      go_wp2_with (fail)
      go_roundw
      case rel => exact ⟨k + 1, by omega, by go_num, hB2, hT2, hset⟩
      case measure => simp [intOf]; omega
    · obtain rfl : k = n := by omega
      rw [upto_all hS.z] at hR
      have hrl := hR.lt
      have hk1 : ∀ W, BRow W gb (bl C) → (convert 48 9 (.slice (some ⟨gb, 0, none⟩) 120 240)).run Try.prog W = .ok (.string (layS C 0)) W ∧ (convert 48 9 (.slice (some ⟨gb, 120, none⟩) 120 120)).run Try.prog W = .ok (.string (layS C 120)) W := fun W hW => ⟨row_conv hW hS.c 0 240 (by omega), row_conv hW hS.c 120 120 (by omega)⟩
      have j1 := half_lo gb
      have j2 := half_hi gb
      generalize hs1 : layS C 0 = s1 at *
      generalize hs2 : layS C 120 = s2 at *
      have HS1 := Lib.hid hs1
      have HS2 := Lib.hid hs2
      clear hs1 hs2
      go_wp2_with (fail)
      go_region_held3 (fun W => (convert 48 9 (.slice (some ⟨gb, 0, none⟩) 120 240)).run Try.prog W = .ok (.string s1) W ∧ (convert 48 9 (.slice (some ⟨gb, 120, none⟩) 120 120)).run Try.prog W = .ok (.string s2) W) (first | exact hk1 _ hR.drew | exact hk1 _ (hR.drew.alloc _) | exact hk1 _ hR) (fail)
      all_goals
        go_wp2_with (fail)
        go_ret
        refine ⟨_, rfl, (hB.alloc hB.size _).trans ⟨rfl, rfl, rfl, Nat.le_refl _, fun _ _ => rfl⟩, ?_⟩
        rw [HS1.out, HS2.out]
        refine .inr ⟨wr.heap.size, 0, 2, rfl, by show wr.heap.size < (wr.alloc _).heap.size; simp, fun i hi => ?_⟩
        show (wr.alloc _).cell? _ = _
        rw [Nat.zero_add, World.cell?_alloc_mark]
        rcases (by simp at hi; omega : i = 0 ∨ i = 1) with rfl | rfl <;> rfl
end Go.Proofs.Ytbfdjlibhinkiaa
