/- The tables of the field in memory, and the contracts of the calls that only read them. -/
import Derived.Test.YtmdenbgambjlcaaDoorRows
import Derived.Test.YtmdenbgambjlcaaDoorGfMath
import Derived.Tactics
import Derived.Tactics2
import Derived.WalkKit
import Derived.LoopTactic
import Derived.ChangeAlike
import Derived.RegionTactic
import Derived.Outline
import Derived.Lib.LaidTab
import Derived.Lib.Hide
import Derived.BigQuiet
import Derived.Deep.QuietTactic
import Derived.Deep.RegionHeld3
import Derived.Below
namespace Go.Proofs.YtmdenbgambjlcaaDoor
open Go.RowKit
set_option linter.unusedVariables false
set_option linter.unusedSimpArgs false

structure Tabs (w : World) : Prop where
  p : ∀ i : Nat, i < 255 → w.cell? ⟨0, i, none⟩ = some (.int .u8 ((Gf.pw i : Nat) : Int))
  l : ∀ i : Nat, i < 255 → w.cell? ⟨1, i, none⟩ = some (.int .u8 ((Gf.lg (i + 1) : Nat) : Int))

theorem xor8 (a b : Int) (h1 : 0 ≤ a) (h2 : a < 256) (h3 : 0 ≤ b) (h4 : b < 256) : bits .xor .u8 a b = ((a.toNat ^^^ b.toNat : Nat) : Int) := by
  obtain ⟨a, rfl⟩ := Int.eq_ofNat_of_zero_le h1
  obtain ⟨b, rfl⟩ := Int.eq_ofNat_of_zero_le h3
  have := Gf.xor_lt (x := a) (y := b) (by omega) (by omega)
  have e : (BitVec.ofNat 8 a ^^^ BitVec.ofNat 8 b).toNat = a ^^^ b := by
    rw [BitVec.toNat_xor, BitVec.toNat_ofNat, BitVec.toNat_ofNat, Nat.mod_eq_of_lt (by omega), Nat.mod_eq_of_lt (by omega)]
  have e2 : bits .xor .u8 (a : Int) (b : Int) = IntKind.u8.wrap (((BitVec.ofNat 8 a ^^^ BitVec.ofNat 8 b).toNat : Nat) : Int) := by
    have ea : BitVec.ofInt 8 (a : Int) = BitVec.ofNat 8 a := BitVec.ofInt_natCast 8 a
    have eb : BitVec.ofInt 8 (b : Int) = BitVec.ofNat 8 b := BitVec.ofInt_natCast 8 b
    rw [← ea, ← eb]; rfl
  rw [e2, e]
  simp [IntKind.wrap, IntKind.bits, IntKind.signed]
  omega

/-- What a call that only reads is to do. -/
def Same (w : World) (v : Value) (e : Ending) (w' : World) : Prop := e = .returned v ∧ w = w'

theorem log_any (a : Int) (w : World) (ht : Tabs w) (h1 : 1 ≤ a) (h2 : a < 256) :
    Calls Tryd.prog 28 #[.int .u8 a] w fun e w' => e = .returned (.int .i64 ((Gf.lg a.toNat : Nat) : Int)) ∧ w = w' := by
  have hc := ht.l (a.toNat - 1) (by omega)
  have hr := Gf.lg_lt a.toNat
  rw [show a.toNat - 1 + 1 = a.toNat by omega] at hc
  go_enter Tryd.func28, Tryd.ntmps28
  go_wp2
  go_ret
  exact ⟨rfl, rfl⟩

theorem add_any (a b : Int) (w : World) (h1 : 0 ≤ a) (h2 : a < 256) (h3 : 0 ≤ b) (h4 : b < 256) :
    Calls Tryd.prog 18 #[.int .u8 a, .int .u8 b] w fun e w' => e = .returned (.int .u8 ((a.toNat ^^^ b.toNat : Nat) : Int)) ∧ w = w' := by
  have hx := Lib.hid (xor8 a b h1 h2 h3 h4)
  go_enter Tryd.func18, Tryd.ntmps18
  go_wp2
  go_ret
  exact ⟨by rw [hx.out]; rfl, rfl⟩

theorem mul_zero_left (a b : Int) (w : World) (h : a = 0) :
    Calls Tryd.prog 20 #[.int .u8 a, .int .u8 b] w fun e w' => e = .returned (.int .u8 ((Gf.gm a.toNat b.toNat : Nat) : Int)) ∧ w = w' := by
  subst h
  go_enter Tryd.func20, Tryd.ntmps20
  go_wp2
  go_ret
  exact ⟨by simp [Gf.gm_zero_left], rfl⟩
theorem mul_zero_right (a b : Int) (w : World) (h0 : (a == 0) = false) (h : b = 0) :
    Calls Tryd.prog 20 #[.int .u8 a, .int .u8 b] w fun e w' => e = .returned (.int .u8 ((Gf.gm a.toNat b.toNat : Nat) : Int)) ∧ w = w' := by
  subst h
  go_enter Tryd.func20, Tryd.ntmps20
  go_wp2
  go_ret
  exact ⟨by simp [Gf.gm_zero_right], rfl⟩
theorem mul_some (a b : Int) (w : World) (ht : Tabs w) (h1 : 1 ≤ a) (h2 : a < 256) (h3 : 1 ≤ b) (h4 : b < 256) (h0 : (a == 0) = false) (h0' : (b == 0) = false) :
    Calls Tryd.prog 20 #[.int .u8 a, .int .u8 b] w fun e w' => e = .returned (.int .u8 ((Gf.gm a.toNat b.toNat : Nat) : Int)) ∧ w = w' := by
  have ha := Gf.lg_lt a.toNat
  have hb := Gf.lg_lt b.toNat
  have hc := ht.p ((Gf.lg a.toNat + Gf.lg b.toNat) % 255) (Nat.mod_lt _ (by decide))
  have hg := Lib.hid (Gf.gm_ne (a := a.toNat) (b := b.toNat) (by omega) (by omega))
  go_enter Tryd.func20, Tryd.ntmps20
  go_wp2_with (go_at_call 28; refine (log_any _ _ ht (by assumption) (by assumption)).mono ?_; rintro e w' ⟨rfl, rfl⟩)
  go_ret
  exact ⟨by rw [hg.out]; rfl, rfl⟩
theorem mul_any (a b : Int) (w : World) (ht : Tabs w) (h1 : 0 ≤ a) (h2 : a < 256) (h3 : 0 ≤ b) (h4 : b < 256) :
    Calls Tryd.prog 20 #[.int .u8 a, .int .u8 b] w fun e w' => e = .returned (.int .u8 ((Gf.gm a.toNat b.toNat : Nat) : Int)) ∧ w = w' := by
  by_cases ha : a = 0
  · exact mul_zero_left a b w ha
  · have ha' : (a == 0) = false := by simpa using ha
    by_cases hb : b = 0
    · exact mul_zero_right a b w ha' hb
    · exact mul_some a b w ht (by omega) h2 (by omega) h4 ha' (by simpa using hb)
theorem inv_zero (a : Int) (w : World) (h : a = 0) :
    Calls Tryd.prog 16 #[.int .u8 a] w fun e w' => e = .returned (.tuple #[.int .u8 0, .int .i64 10]) ∧ w = w' := by
  subst h
  go_enter Tryd.func16, Tryd.ntmps16
  go_wp2
  go_ret2
  exact ⟨rfl, rfl⟩
theorem inv_some (a : Int) (w : World) (ht : Tabs w) (h1 : 1 ≤ a) (h2 : a < 256) :
    Calls Tryd.prog 16 #[.int .u8 a] w fun e w' => e = .returned (.tuple #[.int .u8 ((Gf.gi a.toNat : Nat) : Int), .int .i64 0]) ∧ w = w' := by
  have h0 : (a == 0) = false := by simp; omega
  have ha := Gf.lg_lt a.toNat
  have hc := ht.p ((255 - Gf.lg a.toNat) % 255) (Nat.mod_lt _ (by decide))
  rw [show ⟨0, (255 - Gf.lg a.toNat) % 255, none⟩ = (⟨0, (-((Gf.lg a.toNat : Nat) : Int) % 255).toNat, none⟩ : Addr) by congr 1; omega] at hc
  have hg : Hid (Gf.gi a.toNat = Gf.pw ((255 - Gf.lg a.toNat) % 255)) := Lib.hid rfl
  go_enter Tryd.func16, Tryd.ntmps16
  go_wp2_with (go_at_call 28; refine (log_any _ _ ht (by assumption) (by assumption)).mono ?_; rintro e w' ⟨rfl, rfl⟩)
  go_ret2
  exact ⟨by rw [hg.out]; rfl, rfl⟩
theorem div_zero (a b : Int) (w : World) (h : b = 0) :
    Calls Tryd.prog 14 #[.int .u8 a, .int .u8 b] w fun e w' => e = .returned (.tuple #[.int .u8 0, .int .i64 10]) ∧ w = w' := by
  subst h
  go_enter Tryd.func14, Tryd.ntmps14
  go_wp2_with (go_at_call 16; refine (inv_zero _ _ rfl).mono ?_; rintro e w' ⟨rfl, rfl⟩)
  go_ret2
  exact ⟨rfl, rfl⟩
theorem div_some (a b : Int) (w : World) (ht : Tabs w) (h1 : 0 ≤ a) (h2 : a < 256) (h3 : 1 ≤ b) (h4 : b < 256) :
    Calls Tryd.prog 14 #[.int .u8 a, .int .u8 b] w fun e w' => e = .returned (.tuple #[.int .u8 ((Gf.gd a.toNat b.toNat : Nat) : Int), .int .i64 0]) ∧ w = w' := by
  have hi := Gf.gi_lt b.toNat
  go_enter Tryd.func14, Tryd.ntmps14
  go_wp2_with (first | (go_at_call 16; refine (inv_some _ _ ht (by assumption) (by assumption)).mono ?_; rintro e w' ⟨rfl, rfl⟩) | (go_at_call 20; refine (mul_any _ _ _ ht h1 h2 (by omega) (by omega)).mono ?_; rintro e w' ⟨rfl, rfl⟩))
  go_ret2
  exact ⟨rfl, rfl⟩
theorem glog_zero (a : Int) (w : World) (h : a = 0) :
    Calls Tryd.prog 22 #[.int .u8 a] w fun e w' => e = .returned (.tuple #[.int .i64 0, .int .i64 10]) ∧ w = w' := by
  subst h
  go_enter Tryd.func22, Tryd.ntmps22
  go_wp2
  go_ret2
  exact ⟨rfl, rfl⟩
theorem glog_some (a : Int) (w : World) (ht : Tabs w) (h1 : 1 ≤ a) (h2 : a < 256) :
    Calls Tryd.prog 22 #[.int .u8 a] w fun e w' => e = .returned (.tuple #[.int .i64 ((Gf.lg a.toNat : Nat) : Int), .int .i64 0]) ∧ w = w' := by
  have h0 : (a == 0) = false := by simp; omega
  go_enter Tryd.func22, Tryd.ntmps22
  go_wp2_with (go_at_call 28; refine (log_any _ _ ht (by assumption) (by assumption)).mono ?_; rintro e w' ⟨rfl, rfl⟩)
  go_ret2
  exact ⟨rfl, rfl⟩
theorem exp_nonneg (n : Int) (w : World) (ht : Tabs w) (h1 : 0 ≤ n) (h2 : n ≤ 9223372036854775807) :
    Calls Tryd.prog 24 #[.int .i64 n] w fun e w' => e = .returned (.int .u8 ((Gf.pw (n % 255).toNat : Nat) : Int)) ∧ w = w' := by
  have hc := ht.p (n % 255).toNat (by omega)
  go_enter Tryd.func24, Tryd.ntmps24
  go_wp2
  go_ret
  exact ⟨rfl, rfl⟩
theorem exp_neg (n : Int) (w : World) (ht : Tabs w) (h1 : n < 0) (h2 : -9223372036854775808 ≤ n) (h3 : n.tmod 255 < 0) (h4 : -255 < n.tmod 255) (h5 : (n.tmod 255 + 255).toNat = (n % 255).toNat) :
    Calls Tryd.prog 24 #[.int .i64 n] w fun e w' => e = .returned (.int .u8 ((Gf.pw (n % 255).toNat : Nat) : Int)) ∧ w = w' := by
  have hc := ht.p (n.tmod 255 + 255).toNat (by omega)
  clear ht
  have H5 := Lib.hid h5
  clear h5
  have hw : wrap64 (n.tmod 255 + 255) = n.tmod 255 + 255 := IntWalk.wrap64_in _ ⟨by omega, by omega⟩
  go_enter Tryd.func24, Tryd.ntmps24
  go_wp2
  go_ret
  exact ⟨by rw [← H5.out]; rfl, rfl⟩
theorem exp_whole (n : Int) (w : World) (ht : Tabs w) (h1 : n < 0) (h2 : -9223372036854775808 ≤ n) (h3 : ¬ n.tmod 255 < 0) (h4 : n.tmod 255 < 255) (h5 : (n.tmod 255).toNat = (n % 255).toNat) :
    Calls Tryd.prog 24 #[.int .i64 n] w fun e w' => e = .returned (.int .u8 ((Gf.pw (n % 255).toNat : Nat) : Int)) ∧ w = w' := by
  have hc := ht.p (n.tmod 255).toNat (by omega)
  clear ht
  have H5 := Lib.hid h5
  clear h5
  go_enter Tryd.func24, Tryd.ntmps24
  go_wp2
  go_ret
  exact ⟨by rw [← H5.out]; rfl, rfl⟩
theorem exp_any (n : Int) (w : World) (ht : Tabs w) (h1 : -9223372036854775808 ≤ n) (h2 : n ≤ 9223372036854775807) :
    Calls Tryd.prog 24 #[.int .i64 n] w fun e w' => e = .returned (.int .u8 ((Gf.pw (n % 255).toNat : Nat) : Int)) ∧ w = w' := by
  by_cases h : 0 ≤ n
  · exact exp_nonneg n w ht h h2
  · have e : n.tmod 255 = -((-n) % 255) := by rw [show n = -(-n) by omega, Int.neg_tmod, Int.tmod_eq_emod_of_nonneg (by omega)]; simp
    by_cases h3 : n.tmod 255 < 0
    · exact exp_neg n w ht (by omega) h1 h3 (by omega) (by omega)
    · exact exp_whole n w ht (by omega) h1 h3 (by omega) (by omega)
end Go.Proofs.YtmdenbgambjlcaaDoor
