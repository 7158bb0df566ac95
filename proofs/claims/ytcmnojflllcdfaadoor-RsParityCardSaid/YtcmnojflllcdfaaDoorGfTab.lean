/- The tables of the field in memory, and the contracts of the calls that only read them. -/
import Derived.Test.YtcmnojflllcdfaaDoorRows
import Derived.Test.YtcmnojflllcdfaaDoorGfMath
import Derived.Tactics
import Derived.Tactics2
import Derived.WalkKit
import Derived.LoopTactic
import Derived.ChangeAlike
import Derived.RegionTactic
import Derived.Outline
import Derived.Lib.LaidTab
import Derived.Lib.Hide
import Derived.BigQuiet
import Derived.Deep.QuietTactic
import Derived.Deep.RegionHeld3
import Derived.Below
namespace Go.Proofs.YtcmnojflllcdfaaDoor
open Go.RowKit
set_option linter.unusedVariables false
set_option linter.unusedSimpArgs false

structure Tabs (w : World) : Prop where
  p : ∀ i : Nat, i < 255 → w.cell? ⟨0, i, none⟩ = some (.int .u8 ((Gf.pw i : Nat) : Int))
  l : ∀ i : Nat, i < 255 → w.cell? ⟨1, i, none⟩ = some (.int .u8 ((Gf.lg (i + 1) : Nat) : Int))

theorem xor8 (a b : Int) (h1 : 0 ≤ a) (h2 : a < 256) (h3 : 0 ≤ b) (h4 : b < 256) : bits .xor .u8 a b = ((a.toNat ^^^ b.toNat : Nat) : Int) := by
  obtain ⟨a, rfl⟩ := Int.eq_ofNat_of_zero_le h1
  obtain ⟨b, rfl⟩ := Int.eq_ofNat_of_zero_le h3
  have := Gf.xor_lt (x := a) (y := b) (by omega) (by omega)
  have e : (BitVec.ofNat 8 a ^^^ BitVec.ofNat 8 b).toNat = a ^^^ b := by
    rw [BitVec.toNat_xor, BitVec.toNat_ofNat, BitVec.toNat_ofNat, Nat.mod_eq_of_lt (by omega), Nat.mod_eq_of_lt (by omega)]
  have e2 : bits .xor .u8 (a : Int) (b : Int) = IntKind.u8.wrap (((BitVec.ofNat 8 a ^^^ BitVec.ofNat 8 b).toNat : Nat) : Int) := by
    have ea : BitVec.ofInt 8 (a : Int) = BitVec.ofNat 8 a := BitVec.ofInt_natCast 8 a
    have eb : BitVec.ofInt 8 (b : Int) = BitVec.ofNat 8 b := BitVec.ofInt_natCast 8 b
    rw [← ea, ← eb]; rfl
  rw [e2, e]
  simp [IntKind.wrap, IntKind.bits, IntKind.signed]
  omega

/-- What a call that only reads is to do. -/
def Same (w : World) (v : Value) (e : Ending) (w' : World) : Prop := e = .returned v ∧ w = w'

theorem log_any (a : Int) (w : World) (ht : Tabs w) (h1 : 1 ≤ a) (h2 : a < 256) :
    Calls Tryd.prog 54 #[.int .u8 a] w fun e w' => e = .returned (.int .i64 ((Gf.lg a.toNat : Nat) : Int)) ∧ w = w' := by
  have hc := ht.l (a.toNat - 1) (by omega)
  have hr := Gf.lg_lt a.toNat
  rw [show a.toNat - 1 + 1 = a.toNat by omega] at hc
  go_enter Tryd.func54, Tryd.ntmps54
  go_wp2
  go_ret
  exact ⟨rfl, rfl⟩

theorem add_any (a b : Int) (w : World) (h1 : 0 ≤ a) (h2 : a < 256) (h3 : 0 ≤ b) (h4 : b < 256) :
    Calls Tryd.prog 43 #[.int .u8 a, .int .u8 b] w fun e w' => e = .returned (.int .u8 ((a.toNat ^^^ b.toNat : Nat) : Int)) ∧ w = w' := by
  have hx := Lib.hid (xor8 a b h1 h2 h3 h4)
  go_enter Tryd.func43, Tryd.ntmps43
  go_wp2
  go_ret
  exact ⟨by rw [hx.out]; rfl, rfl⟩

theorem mul_zero_left (a b : Int) (w : World) (h : a = 0) :
    Calls Tryd.prog 48 #[.int .u8 a, .int .u8 b] w fun e w' => e = .returned (.int .u8 ((Gf.gm a.toNat b.toNat : Nat) : Int)) ∧ w = w' := by
  subst h
  go_enter Tryd.func48, Tryd.ntmps48
  go_wp2
  go_ret
  exact ⟨by simp [Gf.gm_zero_left], rfl⟩
theorem mul_zero_right (a b : Int) (w : World) (h0 : (a == 0) = false) (h : b = 0) :
    Calls Tryd.prog 48 #[.int .u8 a, .int .u8 b] w fun e w' => e = .returned (.int .u8 ((Gf.gm a.toNat b.toNat : Nat) : Int)) ∧ w = w' := by
  subst h
  go_enter Tryd.func48, Tryd.ntmps48
  go_wp2
  go_ret
  exact ⟨by simp [Gf.gm_zero_right], rfl⟩
theorem mul_some (a b : Int) (w : World) (ht : Tabs w) (h1 : 1 ≤ a) (h2 : a < 256) (h3 : 1 ≤ b) (h4 : b < 256) (h0 : (a == 0) = false) (h0' : (b == 0) = false) :
    Calls Tryd.prog 48 #[.int .u8 a, .int .u8 b] w fun e w' => e = .returned (.int .u8 ((Gf.gm a.toNat b.toNat : Nat) : Int)) ∧ w = w' := by
  have ha := Gf.lg_lt a.toNat
  have hb := Gf.lg_lt b.toNat
  have hc := ht.p ((Gf.lg a.toNat + Gf.lg b.toNat) % 255) (Nat.mod_lt _ (by decide))
  have hg := Lib.hid (Gf.gm_ne (a := a.toNat) (b := b.toNat) (by omega) (by omega))
  go_enter Tryd.func48, Tryd.ntmps48
  go_wp2_with (go_at_call 54; refine (log_any _ _ ht (by assumption) (by assumption)).mono ?_; rintro e w' ⟨rfl, rfl⟩)
  go_ret
  exact ⟨by rw [hg.out]; rfl, rfl⟩
theorem mul_any (a b : Int) (w : World) (ht : Tabs w) (h1 : 0 ≤ a) (h2 : a < 256) (h3 : 0 ≤ b) (h4 : b < 256) :
    Calls Tryd.prog 48 #[.int .u8 a, .int .u8 b] w fun e w' => e = .returned (.int .u8 ((Gf.gm a.toNat b.toNat : Nat) : Int)) ∧ w = w' := by
  by_cases ha : a = 0
  · exact mul_zero_left a b w ha
  · have ha' : (a == 0) = false := by simpa using ha
    by_cases hb : b = 0
    · exact mul_zero_right a b w ha' hb
    · exact mul_some a b w ht (by omega) h2 (by omega) h4 ha' (by simpa using hb)
theorem inv_zero (a : Int) (w : World) (h : a = 0) :
    Calls Tryd.prog 42 #[.int .u8 a] w fun e w' => e = .returned (.tuple #[.int .u8 0, .int .i64 10]) ∧ w = w' := by
  subst h
  go_enter Tryd.func42, Tryd.ntmps42
  go_wp2
  go_ret2
  exact ⟨rfl, rfl⟩
theorem inv_some (a : Int) (w : World) (ht : Tabs w) (h1 : 1 ≤ a) (h2 : a < 256) :
    Calls Tryd.prog 42 #[.int .u8 a] w fun e w' => e = .returned (.tuple #[.int .u8 ((Gf.gi a.toNat : Nat) : Int), .int .i64 0]) ∧ w = w' := by
  have h0 : (a == 0) = false := by simp; omega
  have ha := Gf.lg_lt a.toNat
  have hc := ht.p ((255 - Gf.lg a.toNat) % 255) (Nat.mod_lt _ (by decide))
  rw [show ⟨0, (255 - Gf.lg a.toNat) % 255, none⟩ = (⟨0, (-((Gf.lg a.toNat : Nat) : Int) % 255).toNat, none⟩ : Addr) by congr 1; omega] at hc
  have hg : Hid (Gf.gi a.toNat = Gf.pw ((255 - Gf.lg a.toNat) % 255)) := Lib.hid rfl
  go_enter Tryd.func42, Tryd.ntmps42
  go_wp2_with (go_at_call 54; refine (log_any _ _ ht (by assumption) (by assumption)).mono ?_; rintro e w' ⟨rfl, rfl⟩)
  go_ret2
  exact ⟨by rw [hg.out]; rfl, rfl⟩
end Go.Proofs.YtcmnojflllcdfaaDoor
