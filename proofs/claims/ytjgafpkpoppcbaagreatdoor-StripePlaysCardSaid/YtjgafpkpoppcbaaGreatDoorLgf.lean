import Derived.Test.YtjgafpkpoppcbaaGreatDoorRows
import Derived.Tactics
import Derived.Tactics2
import Derived.WalkKit
import Derived.LoopTactic
import Derived.ChangeAlike
import Derived.RegionTactic
import Derived.Outline
import Derived.Lib.LaidTab
import Derived.Lib.Hide
import Derived.BigQuiet
import Derived.Deep.QuietTactic
import Derived.Deep.RegionHeld3
import Derived.Below
import Derived.Laws.IdiomStrings
import Derived.StillTailTactics
import Derived.Test.YtjgafpkpoppcbaaGreatDoorLbase
import Derived.Laws.AppendOwn
import Derived.OwnWalk
import Derived.Laws.BytesArg
set_option linter.unusedVariables false
set_option linter.unusedSimpArgs false
section
namespace Go.Proofs.YtjgafpkpoppcbaaGreatDoor.Gf
def pwN : Nat := 0x8e47add86c361b83cfe9fa7db0582c160b8bcbebfbf3f7f5f47a3d90482412098a45ac562b9bc3eff9f279b259a251a653a7dde070381c0e078dc86432198241ae57a5dc6e3795c46231964babdbe3fff1f67bb3d7e5fc7e3f91c663bfd1e673b7d5e472399249aa55a452299a4da8542a158442219e4fa9da6db85c2e1785cc663397c5ec763b93c7edf87c3e1f81ce67bdd068341a0d884422118643afd9e271b65ba3dfe1fe7fb1d66bbbd3e7fdf0783c1e0f89ca65bc5e2f99c261be5fa1de6fb9d269ba5da05028140a058c46239fc1ee77b5d46a35944a259c4e279dc06030180c06038fc9ea75b45a2d984c261387cde8743a1d8040201008040201
def lgN : Nat := 0xaf5850a8eaf4d674e8ade7e6e9d5ae4fd72c757aeb16f50b51a0a99cb05f59cb5a3eccbbb18660fbaa559d29523ba16cf66f0c7fec4917c476a47bb7d8432d1fa2416d4753393c849e5d2a14abd356f261befcdcb2978790cdcfbc955bd13f372e892023d99244117cb4b8267799a5e318fec531edde4a670d63808cf7c0700757a7f373ace5d44e2b79150a9f9b5eca3dba85fa54283a6b6e7e48c3a3b6421e404638835c13d2f1bddb968fce94d03688229110b32598e2fd30dd66628bbf06a672e44d78099ac9b9f9276a7dc2b51d458212f0da8e9335210f24e12f658a05714c08c8f869c11c81ef8d340ee064044bc7681bee33df03c61a3202190100
def pw (n : Nat) : Nat := pwN / 256 ^ n % 256
def lg (a : Nat) : Nat := lgN / 256 ^ (a - 1) % 256
def gm (a b : Nat) : Nat := if a = 0 ∨ b = 0 then 0 else pw ((lg a + lg b) % 255)
def xt (x : Nat) : Nat := if x < 128 then 2 * x else 2 * x ^^^ 285
theorem pw_spec : ∀ n, n < 255 → 1 ≤ pw n ∧ pw n < 256 ∧ lg (pw n) = n := by
  have h : ∀ n : Fin 255, 1 ≤ pw n.val ∧ pw n.val < 256 ∧ lg (pw n.val) = n.val := by decide +kernel
  exact fun n hn => h ⟨n, hn⟩
theorem lg_spec : ∀ a, 1 ≤ a → a < 256 → lg a < 255 ∧ pw (lg a) = a := by
  have h : ∀ a : Fin 256, 1 ≤ a.val → lg a.val < 255 ∧ pw (lg a.val) = a.val := by decide +kernel
  exact fun a h1 h2 => h ⟨a, h2⟩ h1
theorem pw_lt (n : Nat) : pw n < 256 := Nat.mod_lt _ (by decide)
theorem lg_lt (n : Nat) : lg n < 255 := by
  by_cases h : n < 256
  · have : ∀ n : Fin 256, lg n.val < 255 := by decide +kernel
    exact this ⟨n, h⟩
  · unfold lg
    rw [Nat.div_eq_of_lt]
    · decide
    · exact Nat.lt_of_lt_of_le (show lgN < 256 ^ 255 by decide +kernel) (Nat.pow_le_pow_right (by decide) (by omega))
theorem gm_zero_left (b : Nat) : gm 0 b = 0 := by simp [gm]
theorem gm_zero_right (a : Nat) : gm a 0 = 0 := by simp [gm]
theorem gm_lt (a b : Nat) : gm a b < 256 := by
  unfold gm; split
  · decide
  · exact pw_lt _
theorem gm_comm (a b : Nat) : gm a b = gm b a := by
  unfold gm; rw [Nat.add_comm]; simp only [or_comm]
theorem gm_ne {a b : Nat} (ha : a ≠ 0) (hb : b ≠ 0) : gm a b = pw ((lg a + lg b) % 255) := by
  unfold gm; rw [if_neg (by simp [ha, hb])]
theorem gm_pos {a b : Nat} (ha : a ≠ 0) (hb : b ≠ 0) : gm a b ≠ 0 := by
  rw [gm_ne ha hb]; have := (pw_spec _ (Nat.mod_lt (lg a + lg b) (by decide : 255 > 0))).1; omega
theorem gm_eq_zero {a b : Nat} : gm a b = 0 ↔ a = 0 ∨ b = 0 := by
  constructor
  · intro h
    by_cases ha : a = 0
    · exact .inl ha
    · by_cases hb : b = 0
      · exact .inr hb
      · exact absurd h (gm_pos ha hb)
  · rintro (rfl | rfl)
    · exact gm_zero_left _
    · exact gm_zero_right _
theorem lg_gm {a b : Nat} (ha : a ≠ 0) (hb : b ≠ 0) : lg (gm a b) = (lg a + lg b) % 255 := by
  rw [gm_ne ha hb]; exact (pw_spec _ (Nat.mod_lt _ (by decide))).2.2
theorem gm_assoc (a b c : Nat) : gm (gm a b) c = gm a (gm b c) := by
  by_cases ha : a = 0
  · subst ha; simp [gm_zero_left]
  by_cases hb : b = 0
  · subst hb; simp [gm_zero_left, gm_zero_right]
  by_cases hc : c = 0
  · subst hc; simp [gm_zero_right]
  rw [gm_ne (gm_pos ha hb) hc, gm_ne ha (gm_pos hb hc), lg_gm ha hb, lg_gm hb hc]
  congr 1
  omega
theorem lg_one : lg 1 = 0 := by decide +kernel
theorem gm_one {a : Nat} (h : a < 256) : gm a 1 = a := by
  by_cases ha : a = 0
  · subst ha; exact gm_zero_left _
  have := lg_spec a (by omega) h
  rw [gm_ne ha (by decide), lg_one, Nat.add_zero, Nat.mod_eq_of_lt this.1, this.2]
def gi (a : Nat) : Nat := pw ((255 - lg a) % 255)
theorem gi_lt (a : Nat) : gi a < 256 := pw_lt _
theorem gi_pos (a : Nat) : gi a ≠ 0 := by
  have := (pw_spec ((255 - lg a) % 255) (Nat.mod_lt _ (by decide))).1
  unfold gi; omega
theorem gm_gi {a : Nat} (h0 : a ≠ 0) (h : a < 256) : gm a (gi a) = 1 := by
  have hl := lg_spec a (by omega) h
  have hi := pw_spec ((255 - lg a) % 255) (Nat.mod_lt _ (by decide))
  rw [gm_ne h0 (gi_pos a)]
  unfold gi
  rw [hi.2.2, show (lg a + (255 - lg a) % 255) % 255 = 0 by omega]
  decide +kernel
theorem gm_cancel {a x y : Nat} (h0 : a ≠ 0) (h : a < 256) (hx : x < 256) (hy : y < 256) (e : gm a x = gm a y) : x = y := by
  have := congrArg (gm (gi a)) e
  rw [← gm_assoc, ← gm_assoc, gm_comm (gi a), gm_gi h0 h, gm_comm 1, gm_comm 1, gm_one hx, gm_one hy] at this
  exact this
theorem xor_lt {x y : Nat} (hx : x < 256) (hy : y < 256) : x ^^^ y < 256 := Nat.xor_lt_two_pow (n := 8) hx hy
theorem xt_xor : ∀ x y, x < 256 → y < 256 → xt (x ^^^ y) = xt x ^^^ xt y := by
  have e : ∀ x, x < 256 → xt x = 2 * x ^^^ (x / 128 * 285) := by
    have h : ∀ x : Fin 256, xt x.val = 2 * x.val ^^^ (x.val / 128 * 285) := by decide +kernel
    exact fun x hx => h ⟨x, hx⟩
  have c : ∀ a b, a < 2 → b < 2 → (a ^^^ b) * 285 = a * 285 ^^^ b * 285 := by
    have h : ∀ a b : Fin 2, (a.val ^^^ b.val) * 285 = a.val * 285 ^^^ b.val * 285 := by decide
    exact fun a b ha hb => h ⟨a, ha⟩ ⟨b, hb⟩
  have d : ∀ x y : Nat, 2 * (x ^^^ y) = 2 * x ^^^ 2 * y := fun x y => by
    have := Nat.shiftLeft_xor_distrib (a := x) (b := y) (i := 1)
    simpa [Nat.shiftLeft_eq, Nat.mul_comm] using this
  have q : ∀ x y : Nat, (x ^^^ y) / 128 = x / 128 ^^^ y / 128 := fun x y => by
    have := Nat.shiftRight_xor_distrib (a := x) (b := y) (i := 7)
    simpa [Nat.shiftRight_eq_div_pow] using this
  intro x y hx hy
  rw [e _ (xor_lt hx hy), e _ hx, e _ hy, d, q, c _ _ (by omega) (by omega)]
  rw [Nat.xor_assoc, Nat.xor_assoc, ← Nat.xor_assoc (2 * y), Nat.xor_comm (2 * y), Nat.xor_assoc (x / 128 * 285)]
theorem gm_two : ∀ x, x < 256 → gm 2 x = xt x := by
  have h : ∀ x : Fin 256, gm 2 x.val = xt x.val := by decide +kernel
  exact fun x hx => h ⟨x, hx⟩
theorem pw_succ : ∀ n, n + 1 < 255 → pw (n + 1) = gm 2 (pw n) := by
  have h : ∀ n : Fin 254, pw (n.val + 1) = gm 2 (pw n.val) := by decide +kernel
  exact fun n hn => h ⟨n, by omega⟩
theorem pw_xor (n : Nat) : n < 255 → ∀ x y, x < 256 → y < 256 → gm (pw n) (x ^^^ y) = gm (pw n) x ^^^ gm (pw n) y := by
  induction n with
  | zero =>
    intro _ x y hx hy
    have h0 : pw 0 = 1 := by decide +kernel
    rw [h0, gm_comm 1, gm_comm 1, gm_comm 1, gm_one (xor_lt hx hy), gm_one hx, gm_one hy]
  | succ n ih =>
    intro hn x y hx hy
    rw [pw_succ n hn, gm_assoc, gm_assoc, gm_assoc, ih (by omega) x y hx hy, gm_two _ (xor_lt (gm_lt _ _) (gm_lt _ _)), gm_two _ (gm_lt _ _), gm_two _ (gm_lt _ _)]
    exact xt_xor _ _ (gm_lt _ _) (gm_lt _ _)
theorem gm_xor {a x y : Nat} (ha : a < 256) (hx : x < 256) (hy : y < 256) : gm a (x ^^^ y) = gm a x ^^^ gm a y := by
  by_cases h0 : a = 0
  · subst h0; simp [gm_zero_left]
  have hl := lg_spec a (by omega) ha
  have := pw_xor (lg a) hl.1 x y hx hy
  rwa [hl.2] at this
def gd (a b : Nat) : Nat := gm a (gi b)
def part (a b i : Nat) : Nat := gm a (b % 2 ^ i)
theorem pw_two : ∀ i, i < 8 → pw i = 2 ^ i := by decide +kernel
theorem part_zero (a b : Nat) : part a b 0 = 0 := by unfold part; rw [Nat.pow_zero, Nat.mod_one]; exact gm_zero_right _
theorem mod_succ (b i : Nat) : b % 2 ^ (i + 1) = if b / 2 ^ i % 2 = 1 then b % 2 ^ i ^^^ 2 ^ i else b % 2 ^ i := by
  have h := Nat.mod_pow_succ (x := b) (b := 2) (k := i)
  rw [h]
  have hlt : b % 2 ^ i < 2 ^ i := Nat.mod_lt _ (Nat.two_pow_pos i)
  split
  · rename_i e
    rw [e, Nat.mul_one]
    apply Nat.eq_of_testBit_eq
    intro j
    rw [Nat.add_comm, Nat.testBit_xor]
    rcases Nat.lt_trichotomy j i with hj | hj | hj
    · have : i ≠ j := by omega
      rw [Nat.testBit_two_pow_add_gt hj]; simp [this]
    · subst hj; rw [Nat.testBit_two_pow_add_eq]; simp
    · rw [Nat.testBit_lt_two_pow (x := 2 ^ i + b % 2 ^ i), Nat.testBit_lt_two_pow (x := b % 2 ^ i)]
      · have : i ≠ j := by omega
        simp [this]
      · exact Nat.lt_trans hlt (Nat.pow_lt_pow_right (by decide) hj)
      · have : 2 ^ (i + 1) ≤ 2 ^ j := Nat.pow_le_pow_right (by decide) hj
        rw [Nat.pow_succ] at this; omega
  · rename_i e
    have : b / 2 ^ i % 2 = 0 := by omega
    rw [this]; simp
theorem part_succ {a b i : Nat} (ha : a < 256) (hi : i < 8) : part a b (i + 1) = if b / 2 ^ i % 2 = 1 then part a b i ^^^ gm a (pw i) else part a b i := by
  unfold part
  rw [mod_succ]
  have h8 : 2 ^ i ≤ 128 := Nat.le_trans (Nat.pow_le_pow_right (by decide) (show i ≤ 7 by omega)) (by decide)
  have hlt : b % 2 ^ i < 2 ^ i := Nat.mod_lt _ (Nat.two_pow_pos i)
  split
  · rw [gm_xor ha (by omega) (by omega), pw_two i hi]
  · rfl
theorem part_eight {a b : Nat} (hb : b < 256) : part a b 8 = gm a b := by unfold part; rw [Nat.mod_eq_of_lt hb]
theorem gm_pw_succ {a i : Nat} (hi : i + 1 < 255) : gm a (pw (i + 1)) = xt (gm a (pw i)) := by
  rw [pw_succ i hi, ← gm_assoc, gm_comm a, gm_assoc, gm_two _ (gm_lt _ _)]
end Go.Proofs.YtjgafpkpoppcbaaGreatDoor.Gf
end
section
namespace Go.Proofs.YtjgafpkpoppcbaaGreatDoor
open Go.RowKit
structure Tabs (w : World) : Prop where
  p : ∀ i : Nat, i < 255 → w.cell? ⟨0, i, none⟩ = some (.int .u8 ((Gf.pw i : Nat) : Int))
  l : ∀ i : Nat, i < 255 → w.cell? ⟨1, i, none⟩ = some (.int .u8 ((Gf.lg (i + 1) : Nat) : Int))
theorem xor8 (a b : Int) (h1 : 0 ≤ a) (h2 : a < 256) (h3 : 0 ≤ b) (h4 : b < 256) : bits .xor .u8 a b = ((a.toNat ^^^ b.toNat : Nat) : Int) := by
  obtain ⟨a, rfl⟩ := Int.eq_ofNat_of_zero_le h1
  obtain ⟨b, rfl⟩ := Int.eq_ofNat_of_zero_le h3
  have := Gf.xor_lt (x := a) (y := b) (by omega) (by omega)
  have e : (BitVec.ofNat 8 a ^^^ BitVec.ofNat 8 b).toNat = a ^^^ b := by
    rw [BitVec.toNat_xor, BitVec.toNat_ofNat, BitVec.toNat_ofNat, Nat.mod_eq_of_lt (by omega), Nat.mod_eq_of_lt (by omega)]
  have e2 : bits .xor .u8 (a : Int) (b : Int) = IntKind.u8.wrap (((BitVec.ofNat 8 a ^^^ BitVec.ofNat 8 b).toNat : Nat) : Int) := by
    have ea : BitVec.ofInt 8 (a : Int) = BitVec.ofNat 8 a := BitVec.ofInt_natCast 8 a
    have eb : BitVec.ofInt 8 (b : Int) = BitVec.ofNat 8 b := BitVec.ofInt_natCast 8 b
    rw [← ea, ← eb]; rfl
  rw [e2, e]
  simp [IntKind.wrap, IntKind.bits, IntKind.signed]
  omega
def Same (w : World) (v : Value) (e : Ending) (w' : World) : Prop := e = .returned v ∧ w = w'
theorem log_any (a : Int) (w : World) (ht : Tabs w) (h1 : 1 ≤ a) (h2 : a < 256) :
    Calls Tryz.prog 172 #[.int .u8 a] w fun e w' => e = .returned (.int .i64 ((Gf.lg a.toNat : Nat) : Int)) ∧ w = w' := by
  have hc := ht.l (a.toNat - 1) (by omega)
  have hr := Gf.lg_lt a.toNat
  rw [show a.toNat - 1 + 1 = a.toNat by omega] at hc
  go_enter Tryz.func172, Tryz.ntmps172
  go_wp2
  go_ret
  exact ⟨rfl, rfl⟩
theorem add_any (a b : Int) (w : World) (h1 : 0 ≤ a) (h2 : a < 256) (h3 : 0 ≤ b) (h4 : b < 256) :
    Calls Tryz.prog 153 #[.int .u8 a, .int .u8 b] w fun e w' => e = .returned (.int .u8 ((a.toNat ^^^ b.toNat : Nat) : Int)) ∧ w = w' := by
  have hx := Lib.hid (xor8 a b h1 h2 h3 h4)
  go_enter Tryz.func153, Tryz.ntmps153
  go_wp2
  go_ret
  exact ⟨by rw [hx.out]; rfl, rfl⟩
theorem mul_zero_left (a b : Int) (w : World) (h : a = 0) :
    Calls Tryz.prog 185 #[.int .u8 a, .int .u8 b] w fun e w' => e = .returned (.int .u8 ((Gf.gm a.toNat b.toNat : Nat) : Int)) ∧ w = w' := by
  subst h
  go_enter Tryz.func185, Tryz.ntmps185
  go_wp2
  go_ret
  exact ⟨by simp [Gf.gm_zero_left], rfl⟩
theorem mul_zero_right (a b : Int) (w : World) (h0 : (a == 0) = false) (h : b = 0) :
    Calls Tryz.prog 185 #[.int .u8 a, .int .u8 b] w fun e w' => e = .returned (.int .u8 ((Gf.gm a.toNat b.toNat : Nat) : Int)) ∧ w = w' := by
  subst h
  go_enter Tryz.func185, Tryz.ntmps185
  go_wp2
  go_ret
  exact ⟨by simp [Gf.gm_zero_right], rfl⟩
theorem mul_some (a b : Int) (w : World) (ht : Tabs w) (h1 : 1 ≤ a) (h2 : a < 256) (h3 : 1 ≤ b) (h4 : b < 256) (h0 : (a == 0) = false) (h0' : (b == 0) = false) :
    Calls Tryz.prog 185 #[.int .u8 a, .int .u8 b] w fun e w' => e = .returned (.int .u8 ((Gf.gm a.toNat b.toNat : Nat) : Int)) ∧ w = w' := by
  have ha := Gf.lg_lt a.toNat
  have hb := Gf.lg_lt b.toNat
  have hc := ht.p ((Gf.lg a.toNat + Gf.lg b.toNat) % 255) (Nat.mod_lt _ (by decide))
  have hg := Lib.hid (Gf.gm_ne (a := a.toNat) (b := b.toNat) (by omega) (by omega))
  go_enter Tryz.func185, Tryz.ntmps185
  go_wp2_with (go_at_call 172; refine (log_any _ _ ht (by assumption) (by assumption)).mono ?_; rintro e w' ⟨rfl, rfl⟩)
  go_ret
  exact ⟨by rw [hg.out]; rfl, rfl⟩
theorem mul_any (a b : Int) (w : World) (ht : Tabs w) (h1 : 0 ≤ a) (h2 : a < 256) (h3 : 0 ≤ b) (h4 : b < 256) :
    Calls Tryz.prog 185 #[.int .u8 a, .int .u8 b] w fun e w' => e = .returned (.int .u8 ((Gf.gm a.toNat b.toNat : Nat) : Int)) ∧ w = w' := by
  by_cases ha : a = 0
  · exact mul_zero_left a b w ha
  · have ha' : (a == 0) = false := by simpa using ha
    by_cases hb : b = 0
    · exact mul_zero_right a b w ha' hb
    · exact mul_some a b w ht (by omega) h2 (by omega) h4 ha' (by simpa using hb)
theorem inv_some (a : Int) (w : World) (ht : Tabs w) (h1 : 1 ≤ a) (h2 : a < 256) :
    Calls Tryz.prog 152 #[.int .u8 a] w fun e w' => e = .returned (.tuple #[.int .u8 ((Gf.gi a.toNat : Nat) : Int), .int .i64 0]) ∧ w = w' := by
  have h0 : (a == 0) = false := by simp; omega
  have ha := Gf.lg_lt a.toNat
  have hc := ht.p ((255 - Gf.lg a.toNat) % 255) (Nat.mod_lt _ (by decide))
  rw [show ⟨0, (255 - Gf.lg a.toNat) % 255, none⟩ = (⟨0, (-((Gf.lg a.toNat : Nat) : Int) % 255).toNat, none⟩ : Addr) by congr 1; omega] at hc
  have hg : Hid (Gf.gi a.toNat = Gf.pw ((255 - Gf.lg a.toNat) % 255)) := Lib.hid rfl
  go_enter Tryz.func152, Tryz.ntmps152
  go_wp2_with (go_at_call 172; refine (log_any _ _ ht (by assumption) (by assumption)).mono ?_; rintro e w' ⟨rfl, rfl⟩)
  go_ret2
  exact ⟨by rw [hg.out]; rfl, rfl⟩
end Go.Proofs.YtjgafpkpoppcbaaGreatDoor
end
section
namespace Go.Proofs.YtjgafpkpoppcbaaGreatDoor
open Go.RowKit
theorem xor64 (a b : Nat) (h1 : a < 1024) (h2 : b < 1024) : bits .xor .i64 (a : Int) (b : Int) = ((a ^^^ b : Nat) : Int) := by
  have hl : a ^^^ b < 1024 := Nat.xor_lt_two_pow (n := 10) h1 h2
  have e : (BitVec.ofNat 64 a ^^^ BitVec.ofNat 64 b).toNat = a ^^^ b := by
    rw [BitVec.toNat_xor, BitVec.toNat_ofNat, BitVec.toNat_ofNat, Nat.mod_eq_of_lt (by omega), Nat.mod_eq_of_lt (by omega)]
  have e2 : bits .xor .i64 (a : Int) (b : Int) = IntKind.i64.wrap (((BitVec.ofNat 64 a ^^^ BitVec.ofNat 64 b).toNat : Nat) : Int) := by
    have ea : BitVec.ofInt 64 (a : Int) = BitVec.ofNat 64 a := BitVec.ofInt_natCast 64 a
    have eb : BitVec.ofInt 64 (b : Int) = BitVec.ofNat 64 b := BitVec.ofInt_natCast 64 b
    rw [← ea, ← eb]; rfl
  rw [e2, e]
  exact IntWalk.i64_in _ ⟨by omega, by omega⟩
theorem xor64_285 (a : Nat) (h1 : a < 1024) : bits .xor .i64 (a : Int) 285 = ((a ^^^ 285 : Nat) : Int) := xor64 a 285 h1 (by decide)
def RMulRel (a b : Nat) (x y p i : Value) : Prop :=
  ∃ k X Y Z : Nat, k ≤ 8 ∧ X < 256 ∧ Y < 256 ∧ Z < 256 ∧ i = .int .i64 (k : Int) ∧ x = .int .i64 (X : Int) ∧ y = .int .i64 (Y : Int) ∧ p = .int .i64 (Z : Int) ∧
    X = Gf.gm a (Gf.pw k) ∧ Y = b / 2 ^ k ∧ Z = Gf.part a b k
set_option maxHeartbeats 1000000 in
set_option maxRecDepth 100000 in
theorem rmul_nat (a b : Nat) (w : World) (ha : a < 256) (hb : b < 256) :
    Calls Tryz.prog 160 #[.int .u8 (a : Int), .int .u8 (b : Int)] w fun e w' => e = .returned (.int .u8 ((Gf.gm a b : Nat) : Int)) ∧ w = w' := by
  go_enter Tryz.func160, Tryz.ntmps160
  go_wp2
  go_loop [5, 6, 7, 8] (fun x y p i => RMulRel a b x y p i) (fun _ _ _ i => (8 - RowKit.intOf i).toNat)
  case atStart => exact ⟨0, a, b, 0, by omega, ha, hb, by omega, rfl, rfl, rfl, rfl, by rw [show Gf.pw 0 = 1 by decide +kernel, Gf.gm_one ha], by simp, (Gf.part_zero _ _).symm⟩
  case round =>
    obtain ⟨k, X, Y, Z, hk, hX, hY, hZ, rfl, rfl, rfl, rfl, eX, eY, eZ⟩ := hrel
    by_cases hlt : k < 8
    · have hXn : Gf.xt X = Gf.gm a (Gf.pw (k + 1)) := by rw [Gf.gm_pw_succ (by omega), ← eX]
      have hXl : Gf.xt X < 256 := by rw [hXn]; exact Gf.gm_lt _ _
      have hYn : Y / 2 = b / 2 ^ (k + 1) := by rw [eY, Nat.div_div_eq_div_mul, Nat.pow_succ]
      have hZn : Gf.part a b (k + 1) = if Y % 2 = 1 then Z ^^^ X else Z := by rw [Gf.part_succ ha hlt, ← eX, ← eY, ← eZ]
      have hzx := xor64 Z X (by omega) (by omega)
      have hx285 := xor64_285 (2 * X) (by omega)
      rw [show ((2 * X : Nat) : Int) = 2 * (X : Int) by omega] at hx285
      have hZX : Z ^^^ X < 256 := Gf.xor_lt hZ hX
      have hXL := Lib.hid hXl
      have E := Lib.hid (show _ ∧ _ ∧ _ from ⟨hXn, hYn, hZn⟩)
      clear hXn hYn hZn eX eY eZ hXl
      by_cases h1 : Y % 2 = 1
      · have t1 : ((Y : Int) % 2 == 1) = true := by simp; omega
        by_cases h2 : X < 128
        · have hxt : Hid (Gf.xt X = 2 * X) := Lib.hid (by unfold Gf.xt; rw [if_pos h2])
          have HE := Lib.hid h1
          clear h1
          go_wp2
          go_round
          case rel =>
            obtain ⟨e1, e2, e3⟩ := E.out
            rw [if_pos HE.out] at e3
            exact ⟨k + 1, Gf.xt X, Y / 2, Z ^^^ X, by omega, hXL.out, by omega, hZX, by go_num, by rw [hxt.out]; go_num, by go_num, by go_num, e1, e2, e3.symm⟩
          case measure => simp [RowKit.intOf]; omega
        · have hxt : Hid (Gf.xt X = 2 * X ^^^ 285) := Lib.hid (by unfold Gf.xt; rw [if_neg h2])
          have HE := Lib.hid h1
          clear h1
          go_wp2
          go_round
          case rel =>
            obtain ⟨e1, e2, e3⟩ := E.out
            rw [if_pos HE.out] at e3
            exact ⟨k + 1, Gf.xt X, Y / 2, Z ^^^ X, by omega, hXL.out, by omega, hZX, by go_num, by rw [hxt.out], by go_num, by go_num, e1, e2, e3.symm⟩
          case measure => simp [RowKit.intOf]; omega
      · have t1 : ((Y : Int) % 2 == 1) = false := by simp; omega
        by_cases h2 : X < 128
        · have hxt : Hid (Gf.xt X = 2 * X) := Lib.hid (by unfold Gf.xt; rw [if_pos h2])
          have HE := Lib.hid h1
          clear h1
          go_wp2
          go_round
          case rel =>
            obtain ⟨e1, e2, e3⟩ := E.out
            rw [if_neg HE.out] at e3
            exact ⟨k + 1, Gf.xt X, Y / 2, Z, by omega, hXL.out, by omega, hZ, by go_num, by rw [hxt.out]; go_num, by go_num, by go_num, e1, e2, e3.symm⟩
          case measure => simp [RowKit.intOf]; omega
        · have hxt : Hid (Gf.xt X = 2 * X ^^^ 285) := Lib.hid (by unfold Gf.xt; rw [if_neg h2])
          have HE := Lib.hid h1
          clear h1
          go_wp2
          go_round
          case rel =>
            obtain ⟨e1, e2, e3⟩ := E.out
            rw [if_neg HE.out] at e3
            exact ⟨k + 1, Gf.xt X, Y / 2, Z, by omega, hXL.out, by omega, hZ, by go_num, by rw [hxt.out], by go_num, by go_num, e1, e2, e3.symm⟩
          case measure => simp [RowKit.intOf]; omega
    · have : k = 8 := by omega
      subst this
      have E := Lib.hid (eZ.trans (Gf.part_eight hb))
      clear eX eY eZ
      go_wp2
      go_ret
      exact ⟨by rw [E.out]; rfl, rfl⟩
theorem rmul_any (a b : Int) (w : World) (h1 : 0 ≤ a) (h2 : a < 256) (h3 : 0 ≤ b) (h4 : b < 256) :
    Calls Tryz.prog 160 #[.int .u8 a, .int .u8 b] w fun e w' => e = .returned (.int .u8 ((Gf.gm a.toNat b.toNat : Nat) : Int)) ∧ w = w' := by
  obtain ⟨a, rfl⟩ := Int.eq_ofNat_of_zero_le h1
  obtain ⟨b, rfl⟩ := Int.eq_ofNat_of_zero_le h3
  exact rmul_nat a b w (by omega) (by omega)
theorem gi_ge {a : Nat} : 1 ≤ Gf.gi a := by have := Gf.gi_pos a; omega
set_option maxRecDepth 100000 in
theorem rinv_some (a : Nat) (w : World) (h1 : 1 ≤ a) (h2 : a < 256) :
    Calls Tryz.prog 129 #[.int .u8 (a : Int)] w fun e w' => e = .returned (.tuple #[.int .u8 ((Gf.gi a : Nat) : Int), .int .i64 0]) ∧ w = w' := by
  have hgl := Gf.gi_lt a
  have hgp := gi_ge (a := a)
  go_enter Tryz.func129, Tryz.ntmps129
  go_wp2
  go_loop [4] (fun i => ∃ k : Nat, 1 ≤ k ∧ k ≤ Gf.gi a ∧ i = .int .i64 (k : Int)) (fun i => (256 - RowKit.intOf i).toNat)
  case atStart => exact ⟨1, by omega, hgp, rfl⟩
  case round =>
    obtain ⟨k, h1k, hk, rfl⟩ := hrel
    have hlt : k < 256 := by omega
    by_cases he : k = Gf.gi a
    · have hz : (((Gf.gm a k : Nat) : Int) == 1) = true := by
        rw [he, Gf.gm_gi (by omega) h2]; rfl
      have HE := Lib.hid he
      clear he
      go_wp2_with (go_at_call 160; refine (rmul_any (a : Int) (k : Int) _ (by omega) (by omega) (by omega) (by omega)).mono ?_; rintro e w' ⟨rfl, rfl⟩)
      go_ret2
      exact ⟨by rw [← HE.out]; rfl, rfl⟩
    · have hz : (((Gf.gm a k : Nat) : Int) == 1) = false := by
        rw [beq_eq_false_iff_ne]
        intro h
        exact he (Gf.gm_cancel (a := a) (by omega) h2 hlt hgl (by rw [Gf.gm_gi (by omega) h2]; omega))
      have hkk : k + 1 ≤ Gf.gi a := by omega
      clear he
      go_wp2_with (go_at_call 160; refine (rmul_any (a : Int) (k : Int) _ (by omega) (by omega) (by omega) (by omega)).mono ?_; rintro e w' ⟨rfl, rfl⟩)
      go_round
      case rel => exact ⟨k + 1, by omega, hkk, by go_num⟩
      case measure => simp [RowKit.intOf]; omega
theorem rinv_pos (a : Int) (w : World) (h1 : 1 ≤ a) (h2 : a < 256) :
    Calls Tryz.prog 129 #[.int .u8 a] w fun e w' => e = .returned (.tuple #[.int .u8 ((Gf.gi a.toNat : Nat) : Int), .int .i64 0]) ∧ w = w' := by
  obtain ⟨a, rfl⟩ := Int.eq_ofNat_of_zero_le (show 0 ≤ a by omega)
  exact rinv_some a w (by omega) (by omega)
end Go.Proofs.YtjgafpkpoppcbaaGreatDoor
end
section
namespace Go.Proofs.YtjgafpkpoppcbaaGreatDoor
open Go.RowKit
namespace Gf
def mixAt (y : List UInt8) (c : Nat) (x : List UInt8) (i : Nat) : UInt8 :=
  if i < x.length then UInt8.ofNat ((y.getD i 0).toNat ^^^ gm c (x.getD i 0).toNat) else y.getD i 0
def mix (y : List UInt8) (c : Nat) (x : List UInt8) : List UInt8 := (List.range y.length).map (mixAt y c x)
theorem mix_length (y : List UInt8) (c : Nat) (x : List UInt8) : (mix y c x).length = y.length := by simp [mix]
theorem mix_get {y : List UInt8} {c : Nat} {x : List UInt8} {i : Nat} (h : i < (mix y c x).length) : (mix y c x)[i] = mixAt y c x i := by simp [mix]
theorem mixAt_toNat (y : List UInt8) (c : Nat) (x : List UInt8) (i : Nat) : (mixAt y c x i).toNat = if i < x.length then (y.getD i 0).toNat ^^^ gm c (x.getD i 0).toNat else (y.getD i 0).toNat := by
  unfold mixAt
  split
  · have := xor_lt (x := (y.getD i 0).toNat) (y := gm c (x.getD i 0).toNat) (UInt8.toNat_lt _) (gm_lt _ _)
    simp only [UInt8.toNat_ofNat']
    omega
  · rfl
end Gf
def mulAdd (y : ByteArray) (c : Nat) (x : ByteArray) : ByteArray := lineOf (Gf.mix y.data.toList c x.data.toList)
theorem Tabs.of_cells {w w' : World} (h : Tabs w) (hc : ∀ b o, b < 2 → w'.cell? ⟨b, o, none⟩ = w.cell? ⟨b, o, none⟩) : Tabs w' :=
  ⟨fun i hi => by rw [hc _ _ (by decide)]; exact h.p i hi, fun i hi => by rw [hc _ _ (by decide)]; exact h.l i hi⟩
theorem Tabs.two {w : World} (h : Tabs w) : 2 ≤ w.heap.size := by
  have h1 := World.block_lt_of_cell? w _ (h.l 0 (by decide))
  have h2 := World.block_lt_of_cell? w _ (h.p 0 (by decide))
  simp at h1 h2
  omega
theorem Tabs.below {B : Nat} {w w' : World} (h : Tabs w) (hb : Below B w w') (hB : 2 ≤ B) : Tabs w' :=
  h.of_cells fun b o hlt => hb.cell (p := ⟨b, o, none⟩) (by simp; omega)
theorem Tabs.drew {w : World} (h : Tabs w) : Tabs w.drew := h.of_cells fun b o _ => rfl
theorem Tabs.setCell {w : World} {a : Addr} (h : Tabs w) (ha : 2 ≤ a.block) (v : Value) : Tabs (w.setCell a v) := h.below ((Below.refl a.block w).setCell (Nat.le_refl _) v) ha
theorem Tabs.alloc {w : World} (h : Tabs w) (o : Obj) : Tabs (w.alloc o) := h.below ((Below.refl w.heap.size w).alloc (Nat.le_refl _) o) h.two
theorem byte_get (s : ByteArray) (k : Nat) (h : k < s.size) : s[k] = s.data.toList.getD k 0 := by
  rw [List.getD_eq_getElem?_getD, List.getElem?_eq_getElem (by simpa using h)]
  rfl
structure Filled (w : World) (y x : ByteArray) (c : Nat) (k : Nat) (C : Nat) (wr : World) : Prop where
  blk : ∃ cur : Array Value, wr.heap[w.heap.size]? = some (.cells cur 5 (C, C + 1)) ∧ cur.size = C ∧
    ∀ j, j < y.size → cur[j]? = some (.int .u8 (((if j < k then Gf.mixAt y.data.toList c x.data.toList j else y.data.toList.getD j 0).toNat : Nat) : Int))
  below : Below w.heap.size w wr
  room : y.size ≤ C
theorem Filled.cell {w : World} {y x : ByteArray} {c k C : Nat} {wr : World} (h : Filled w y x c k C wr) {j : Nat} (hj : j < y.size) :
    wr.cell? ⟨w.heap.size, j, none⟩ = some (.int .u8 (((if j < k then Gf.mixAt y.data.toList c x.data.toList j else y.data.toList.getD j 0).toNat : Nat) : Int)) := by
  obtain ⟨cur, hb, hC, hc⟩ := h.blk
  have := hc j hj
  simp only [World.cell?, hb]
  simpa using this
theorem Filled.frozen {w : World} {y x : ByteArray} {c k C : Nat} {wr : World} (h : Filled w y x c k C wr) {j : Nat} (hj : j < y.size) :
    wr.frozen? ⟨w.heap.size, j, none⟩ = false := by
  obtain ⟨cur, hb, hC, hc⟩ := h.blk
  have := h.room
  simp [World.frozen?, hb]
  omega
theorem Filled.drew {w : World} {y x : ByteArray} {c k C : Nat} {wr : World} (h : Filled w y x c k C wr) : Filled w y x c k C wr.drew := ⟨h.blk, h.below.drew, h.room⟩
theorem Filled.next {w : World} {y x : ByteArray} {c k C : Nat} {wr : World} (h : Filled w y x c k C wr) (hk : k < y.size) (hx : k < x.size) (v : Int)
    (hv : v = (((y.data.toList.getD k 0).toNat ^^^ Gf.gm c (x.data.toList.getD k 0).toNat : Nat) : Int)) :
    Filled w y x c (k + 1) C (wr.setCell ⟨w.heap.size, k, none⟩ (.int .u8 v)) := by
  obtain ⟨⟨cur, hb, hC, hc⟩, hbel, hroom⟩ := h
  have hlt : w.heap.size < wr.heap.size := by
    rcases Nat.lt_or_ge w.heap.size wr.heap.size with h | h
    · exact h
    · rw [Array.getElem?_eq_none h] at hb; cases hb
  refine ⟨⟨cur.setIfInBounds k (.int .u8 v), ?_, by simpa using hC, fun j hj => ?_⟩, hbel.setCell (Nat.le_refl _) _, hroom⟩
  · simp [World.setCell, Array.getElem?_modify, hb]
  · rw [Array.getElem?_setIfInBounds]
    by_cases e : k = j
    · subst e
      rw [if_pos rfl, if_pos (by omega), if_pos (by omega), hv, Gf.mixAt_toNat, if_pos (by simpa using hx)]
    · rw [if_neg e, hc j hj]
      by_cases h1 : j < k
      · rw [if_pos h1, if_pos (by omega)]
      · rw [if_neg h1, if_neg (by omega)]
theorem Filled.start (w : World) (y x : ByteArray) (c : Nat) (cap : Nat) (hcap : y.size ≤ cap) :
    Filled w y x c 0 (bytesRow y cap).size (w.drew.alloc (.cells (bytesRow y cap) 5 ((bytesRow y cap).size, (bytesRow y cap).size + 1))) := by
  refine ⟨⟨bytesRow y cap, heap_alloc_new _ _, rfl, fun j hj => ?_⟩, ((Below.refl _ _).drew).alloc (Nat.le_refl _) _, ?_⟩
  · rw [bytesRow_at y cap j hj, if_neg (by omega), ← byte_get y j hj]; rfl
  · show y.size ≤ (bytesRow y cap).size
    simp [bytesRow]
theorem Filled.back {w : World} {y x : ByteArray} {c k C : Nat} {wr : World} (h : Filled w y x c k C wr) (hk : k = min x.size y.size) (cap : Nat) :
    (convert 99 9 (.slice (some ⟨w.heap.size, 0, none⟩) y.size cap)).run Tryz.prog wr = .ok (.string (mulAdd y c x)) wr := by
  have hl : (Gf.mix y.data.toList c x.data.toList).length = y.size := by rw [Gf.mix_length]; simp
  have := run_convert_bytes_back (P := Tryz.prog) wr 99 9 5 ⟨w.heap.size, 0, none⟩ cap (Gf.mix y.data.toList c x.data.toList) Tryz.underlying99 Tryz.underlying5 Tryz.underlying9 (fun j hj => by
    rw [hl] at hj
    have hc := h.cell hj
    have ea : (⟨w.heap.size, 0, none⟩ : Addr).add j = ⟨w.heap.size, j, none⟩ := by simp [Addr.add]; intro h; exact h.symm
    rw [ea, hc, Gf.mix_get]
    congr 3
    by_cases e : j < k
    · rw [if_pos e]
    · rw [if_neg e]
      unfold Gf.mixAt
      rw [if_neg (by simp; omega)])
  rw [hl] at this
  exact this
set_option maxRecDepth 100000 in
set_option maxHeartbeats 1000000 in
theorem muladd_nat (y x : ByteArray) (c : Nat) (w : World) (ht : Tabs w) (hc : c < 256) (hy : y.size ≤ maxLen) (hx : x.size ≤ maxLen) :
    Calls Tryz.prog 169 #[.string y, .int .u8 (c : Int), .string x] w fun e w' => e = .returned (.string (mulAdd y c x)) ∧ Below w.heap.size w w' := by
  unfold maxLen at hy hx
  have hconv := run_bytes_of_string (P := Tryz.prog) w 9 99 5 y Tryz.underlying9 Tryz.underlying99 Tryz.underlying5
  have hF := Filled.start w y x c (grownCap w y.size 0 5) (grownCap_ge _ _ _ _)
  obtain ⟨w0, hw0⟩ : ∃ w0, w0 = w.drew.alloc (.cells (bytesRow y (grownCap w y.size 0 5)) 5 ((bytesRow y (grownCap w y.size 0 5)).size, (bytesRow y (grownCap w y.size 0 5)).size + 1)) := ⟨_, rfl⟩
  rw [← hw0] at hconv hF
  clear hw0
  generalize grownCap w y.size 0 5 = cap at hconv hF
  generalize (bytesRow y cap).size = C at hF
  go_enter Tryz.func169, Tryz.ntmps169
  rcases Nat.lt_or_ge y.size x.size with hxy | hxy
  all_goals
    go_wp2
    go_loopw [8, 16] (fun j i wr => ∃ k : Nat, k ≤ y.size ∧ k ≤ x.size ∧ i = .int .i64 (k : Int) ∧ Filled w y x c k C wr) (fun _ i _ => y.size - (RowKit.intOf i).toNat)
    case atStart => exact ⟨0, by omega, by omega, rfl, hF⟩
    case round =>
      obtain ⟨k, hky, hkx, rfl, hFk⟩ := hrel
      by_cases hlt : k < y.size ∧ k < x.size
      · obtain ⟨h1, h2⟩ := hlt
        have h2w : 2 ≤ w.heap.size := ht.two
        have htk : Tabs wr := ht.below hFk.below ht.two
        have hcell := hFk.cell h1
        have hfr := hFk.frozen h1
        have b1 : (0 : Int) ≤ (k : Int) := by omega
        have b2 : (k : Int) < (y.size : Int) := by omega
        have b3 : (k : Int) < (x.size : Int) := by omega
        have c1 := UInt8.toNat_lt y[k]
        have c2 := UInt8.toNat_lt x[k]
        have c3 := Gf.gm_lt c (x[k]).toNat
        go_wp2
        go_region_held3 (fun w' => Tabs w') (first | assumption | exact Tabs.drew (by assumption) | exact (Tabs.setCell htk h2w _).drew)
          (first
            | (go_at_call 185; refine (mul_any _ _ _ (by assumption) (by omega) (by omega) (by omega) (by omega)).mono ?_; rintro e w' ⟨rfl, rfl⟩)
            | (go_at_call 153; refine (add_any _ _ _ (by omega) (by omega) (by omega) (by omega)).mono ?_; rintro e w' ⟨rfl, rfl⟩))
        all_goals
          go_wp2
          go_roundw
          case rel => exact ⟨k + 1, by omega, by omega, by go_num, (hFk.next h1 h2 _ (by rw [byte_get y k h1, byte_get x k h2])).drew⟩
          case measure => simp [RowKit.intOf]; omega
      · have hb := hFk.back (by omega) cap
        have hbl := hFk.below
        go_wp2
        go_ret
        exact ⟨rfl, hbl⟩
theorem muladd_any (y x : ByteArray) (c : Int) (w : World) (ht : Tabs w) (h1 : 0 ≤ c) (h2 : c < 256) (hy : y.size ≤ maxLen) (hx : x.size ≤ maxLen) :
    Calls Tryz.prog 169 #[.string y, .int .u8 c, .string x] w fun e w' => e = .returned (.string (mulAdd y c.toNat x)) ∧ Below w.heap.size w w' := by
  obtain ⟨c, rfl⟩ := Int.eq_ofNat_of_zero_le h1
  exact muladd_nat y x c w ht (by omega) hy hx
end Go.Proofs.YtjgafpkpoppcbaaGreatDoor
end
section
namespace Go.Proofs.YtjgafpkpoppcbaaGreatDoor
open Go.RowKit
theorem own_back {w : World} {B n : Nat} {v : Value} {l : List UInt8} (h : w.ownsRow B 5 1 v n (l.map byteVal)) :
    (convert 99 9 v).run Tryz.prog w = .ok (.string (lineOf l)) w := by
  obtain ⟨hl, hv⟩ := h
  have hln : l.length = n := by simpa using hl
  rcases hv with ⟨rfl, h0⟩ | ⟨g, cap, cur, rfl, hb, hg, hn, hm, hs, ht⟩
  · have : l = [] := by apply List.eq_nil_of_length_eq_zero; omega
    subst this
    rw [run_convert_bytes_string w 99 9 5 none 0 0 Tryz.underlying99 Tryz.underlying5 Tryz.underlying9]
    rfl
  · have := run_convert_bytes_back (P := Tryz.prog) w 99 9 5 ⟨g, 0, none⟩ cap l Tryz.underlying99 Tryz.underlying5 Tryz.underlying9 (fun j hj => by
      have ea : (⟨g, 0, none⟩ : Addr).add j = ⟨g, j, none⟩ := by simp [Addr.add]; intro h; exact h.symm
      have : cur[j]? = some (byteVal l[j]) := by
        have e := congrArg (·[j]?) ht
        simp only [List.getElem?_take, List.getElem?_map, List.getElem?_eq_getElem hj, Option.map_some] at e
        rw [if_pos (by omega)] at e
        simpa using e
      rw [ea]
      simp only [World.cell?, hg]
      simpa [byteVal] using this)
    rw [hln] at this
    exact this
theorem Tryz.info5 : (Tryz.prog.info? 5).map (fun i => (i.zero, i.size, i.bytes)) = some (some (.int .u8 0), 1, 1) := by kernel_rfl
namespace Gf
def mixTo (y : List UInt8) (c : Nat) (x : List UInt8) (k : Nat) : List UInt8 := (List.range k).map (mixAt y c x)
theorem mixTo_succ (y : List UInt8) (c : Nat) (x : List UInt8) (k : Nat) : mixTo y c x (k + 1) = mixTo y c x k ++ [mixAt y c x k] := by simp [mixTo, List.range_succ]
theorem mixTo_all (y : List UInt8) (c : Nat) (x : List UInt8) : mixTo y c x y.length = mix y c x := rfl
end Gf
set_option maxRecDepth 100000 in
set_option maxHeartbeats 1000000 in
theorem rmuladd_nat (y x : ByteArray) (c : Nat) (w : World) (hc : c < 256) (hy : y.size ≤ 140737488351232) (hx : x.size ≤ 140737488351232) :
    Calls Tryz.prog 131 #[.string y, .int .u8 (c : Int), .string x] w fun e w' => e = .returned (.string (mulAdd y c x)) ∧ Below w.heap.size w w' := by
  obtain ⟨i0, hi, hz0, hz1, hz2⟩ := info_parts Tryz.info5
  go_enter Tryz.func131, Tryz.ntmps131
  go_wp2
  go_loopw [7, 8, 9] (fun v i b wr => ∃ k : Nat, k ≤ y.size ∧ i = .int .i64 (k : Int) ∧ wr.ownsRow w.heap.size 5 1 v k ((Gf.mixTo y.data.toList c x.data.toList k).map byteVal) ∧ Below w.heap.size w wr) (fun _ i _ _ => y.size - (RowKit.intOf i).toNat)
  case atStart => exact ⟨0, by omega, rfl, World.ownsRow_nil _ _ _ _, Below.refl _ _⟩
  case round =>
    obtain ⟨k, hky, rfl, hown, hbel⟩ := hrel
    by_cases h1 : k < y.size
    · have b1 : (0 : Int) ≤ (k : Int) := by omega
      have b2 : (k : Int) < (y.size : Int) := by omega
      have c1 := UInt8.toNat_lt y[k]
      have hsz := hbel.size
      by_cases h2 : k < x.size
      · have b3 : (k : Int) < (x.size : Int) := by omega
        have c2 := UInt8.toNat_lt x[k]
        have c3 := Gf.gm_lt c (x[k]).toNat
        have hxx := xor8 (y[k].toNat : Int) (Gf.gm c (x[k]).toNat : Int) (by omega) (by omega) (by omega) (by omega)
        rw [Int.toNat_natCast, Int.toNat_natCast] at hxx
        have hv : Hid (((y[k].toNat ^^^ Gf.gm c x[k].toNat : Nat) : Int) = (((Gf.mixAt y.data.toList c x.data.toList k).toNat : Nat) : Int)) := Lib.hid (by
          rw [Gf.mixAt_toNat, if_pos (by simpa using h2), byte_get y k h1, byte_get x k h2])
        go_wp2_with (first
          | (go_at_call 160; refine (rmul_any _ _ _ (by omega) (by omega) (by omega) (by omega)).mono ?_; rintro e w' ⟨rfl, rfl⟩)
          | (at_builtin; refine wpList_append_own _ rfl _ _ 99 rfl w.heap.size 5 i0 (.int .u8 0) 1 1 Tryz.underlying99 hi hz0 hz1 hz2 rfl (by decide) _ _ _ rfl (hown.alloc _) ⟨wr.heap.size, 0, none⟩ 1 1 [.int .u8 ((y[k].toNat ^^^ Gf.gm c x[k].toNat : Nat) : Int)] rfl rfl ?c1 ?c2 ?c3 ?c4 ?c5 ?_))
        case c1 =>
          intro j u hj
          match j, hj with
          | 0, hj => simp at hj; subst hj; simp [Addr.add]
        case c2 => intro u hu; simp at hu; subst hu; rfl
        case c3 => unfold maxLen; omega
        case c4 => omega
        case c5 => simp; omega
        · intro v' w1 hown' hgrow _
          rw [hv.out] at hown'
          have hown2 : w1.ownsRow w.heap.size 5 1 v' (k + 1) ((Gf.mixTo y.data.toList c x.data.toList (k + 1)).map byteVal) := by
            rw [Gf.mixTo_succ, List.map_append]; exact hown'
          have hb2 : Below w.heap.size w w1 := ((hbel.alloc (by omega) _)).grown hgrow (by simp; omega) (fun q hq => (hown.lt q hq).1)
          clear hown' hgrow
          go_wp2
          go_roundw
          case rel => exact ⟨k + 1, by omega, by go_num, hown2, hb2⟩
          case measure => simp [RowKit.intOf]; omega
      · have hv : Hid (((y[k].toNat : Nat) : Int) = (((Gf.mixAt y.data.toList c x.data.toList k).toNat : Nat) : Int)) := Lib.hid (by
          rw [Gf.mixAt_toNat, if_neg (by simpa using h2), byte_get y k h1])
        go_wp2_with (at_builtin; refine wpList_append_own _ rfl _ _ 99 rfl w.heap.size 5 i0 (.int .u8 0) 1 1 Tryz.underlying99 hi hz0 hz1 hz2 rfl (by decide) _ _ _ rfl (hown.alloc _) ⟨wr.heap.size, 0, none⟩ 1 1 [.int .u8 ((y[k].toNat : Nat) : Int)] rfl rfl ?c1 ?c2 ?c3 ?c4 ?c5 ?_)
        case c1 =>
          intro j u hj
          match j, hj with
          | 0, hj => simp at hj; subst hj; simp [Addr.add]
        case c2 => intro u hu; simp at hu; subst hu; rfl
        case c3 => unfold maxLen; omega
        case c4 => omega
        case c5 => simp; omega
        · intro v' w1 hown' hgrow _
          rw [hv.out] at hown'
          have hown2 : w1.ownsRow w.heap.size 5 1 v' (k + 1) ((Gf.mixTo y.data.toList c x.data.toList (k + 1)).map byteVal) := by
            rw [Gf.mixTo_succ, List.map_append]; exact hown'
          have hb2 : Below w.heap.size w w1 := ((hbel.alloc (by omega) _)).grown hgrow (by simp; omega) (fun q hq => (hown.lt q hq).1)
          clear hown' hgrow
          go_wp2
          go_roundw
          case rel => exact ⟨k + 1, by omega, by go_num, hown2, hb2⟩
          case measure => simp [RowKit.intOf]; omega
    · obtain rfl : k = y.size := by omega
      have hown2 : wr.ownsRow w.heap.size 5 1 u7 y.size ((Gf.mix y.data.toList c x.data.toList).map byteVal) := by
        rw [← Gf.mixTo_all]; simpa using hown
      have hb := own_back hown2
      clear hown hown2
      go_wp2
      go_ret
      exact ⟨rfl, hbel⟩
end Go.Proofs.YtjgafpkpoppcbaaGreatDoor
end
