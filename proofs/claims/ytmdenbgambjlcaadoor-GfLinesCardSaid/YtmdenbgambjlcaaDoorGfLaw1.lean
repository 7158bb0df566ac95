/- The laws of the layer: their walks. -/
import Derived.Test.YtmdenbgambjlcaaDoorGfAwake
namespace Go.Proofs.YtmdenbgambjlcaaDoor
open Go.RowKit
set_option linter.unusedVariables false
set_option linter.unusedSimpArgs false

/-- The class of the worlds in which a law's last region is carried out. -/
structure Cls (w0 w : World) : Prop where
  below : Below w0.heap.size w0 w
  tabs : Tabs w
theorem Cls.drew {w0 w : World} (h : Cls w0 w) : Cls w0 w.drew := ⟨h.below.drew, h.tabs.drew⟩
/-- A region that draws its order, whose operations leave the world alone and whose calls leave a world of the class: one walk, in the order of the text. -/
theorem wp_region_cls {P : Program} {D : World → Prop} {id : Nat} {Q : Exit → Act → World → Prop} {a : Act} {w : World} {l : List Oper} (hm : P.follows .mixedOrders = true) (hB : Region.lexB .any l.toArray = true) (hC : D w.drew)
    (h : wpQuiet P l.toArray (fun w' => ∃ z : {w' // D w'}, w' = z.val) (fun a' => ∀ w', (∃ z : {w' // D w'}, w' = z.val) → Q .normal a' w') l a) : (Code.region id l.toArray true).wp P Q a w :=
  wp_region_quiet (C := fun w' => ∃ z : {w' // D w'}, w' = z.val) hm hB ⟨⟨_, hC⟩, rfl⟩ (by simpa using h)
theorem toQ {D : World → Prop} {P : Program} {f : FuncId} {args : Array Value} {v : Value} (z : {w' // D w'}) (h : Calls P f args z.val fun e w' => e = .returned v ∧ z.val = w') :
    Calls P f args z.val fun e w'' => e = .returned v ∧ ∃ z' : {w' // D w'}, w'' = z'.val := h.mono fun _ _ ⟨he, hw⟩ => ⟨he, z, hw.symm⟩
theorem toQB {w0 : World} {P : Program} {f : FuncId} {args : Array Value} {v : Value} (z : {w' // Cls w0 w'}) (h : Calls P f args z.val fun e w' => e = .returned v ∧ Below z.val.heap.size z.val w') :
    Calls P f args z.val fun e w'' => e = .returned v ∧ ∃ z' : {w' // Cls w0 w'}, w'' = z'.val :=
  h.mono fun _ w' ⟨he, hw⟩ => ⟨he, ⟨w', z.property.below.trans (hw.mono z.property.below.size), z.property.tabs.below hw z.property.tabs.two⟩, rfl⟩

namespace Gf
def gi0 (a : Nat) : Nat := if a = 0 then 0 else gi a
def lg0 (a : Nat) : Nat := if a = 0 then 0 else lg a
def gd0 (a b : Nat) : Nat := if b = 0 then 0 else gd a b
def ge (a : Nat) : Int := if a = 0 then 10 else 0
end Gf
theorem inv_u (a : Int) (w : World) (ht : Tabs w) (ha : 0 ≤ a) (ka : a < 256) :
    Calls Tryd.prog 16 #[.int .u8 a] w fun e w' => e = .returned (.tuple #[.int .u8 ((Gf.gi0 a.toNat : Nat) : Int), .int .i64 (Gf.ge a.toNat)]) ∧ w = w' := by
  by_cases h : a = 0
  · refine (inv_zero a w h).mono ?_
    rintro e w' ⟨rfl, rfl⟩
    subst h
    exact ⟨rfl, rfl⟩
  · refine (inv_some a w ht  (by omega) ka).mono ?_
    rintro e w' ⟨rfl, rfl⟩
    have h' : ¬ a.toNat = 0 := by omega
    exact ⟨by rw [Gf.gi0, Gf.ge, if_neg h', if_neg h'], rfl⟩
theorem rinv_u (a : Int) (w : World) (ha : 0 ≤ a) (ka : a < 256) :
    Calls Tryd.prog 17 #[.int .u8 a] w fun e w' => e = .returned (.tuple #[.int .u8 ((Gf.gi0 a.toNat : Nat) : Int), .int .i64 (Gf.ge a.toNat)]) ∧ w = w' := by
  by_cases h : a = 0
  · refine (rinv_zero a w h).mono ?_
    rintro e w' ⟨rfl, rfl⟩
    subst h
    exact ⟨rfl, rfl⟩
  · refine (rinv_pos a w  (by omega) ka).mono ?_
    rintro e w' ⟨rfl, rfl⟩
    have h' : ¬ a.toNat = 0 := by omega
    exact ⟨by rw [Gf.gi0, Gf.ge, if_neg h', if_neg h'], rfl⟩
theorem div_u (a : Int) (b : Int) (w : World) (ht : Tabs w) (ha : 0 ≤ a) (ka : a < 256) (hb : 0 ≤ b) (kb : b < 256) :
    Calls Tryd.prog 14 #[.int .u8 a, .int .u8 b] w fun e w' => e = .returned (.tuple #[.int .u8 ((Gf.gd0 a.toNat b.toNat : Nat) : Int), .int .i64 (Gf.ge b.toNat)]) ∧ w = w' := by
  by_cases h : b = 0
  · refine (div_zero a b w h).mono ?_
    rintro e w' ⟨rfl, rfl⟩
    subst h
    exact ⟨rfl, rfl⟩
  · refine (div_some a b w ht ha ka (by omega) kb).mono ?_
    rintro e w' ⟨rfl, rfl⟩
    have h' : ¬ b.toNat = 0 := by omega
    exact ⟨by rw [Gf.gd0, Gf.ge, if_neg h', if_neg h'], rfl⟩
theorem rdiv_u (a : Int) (b : Int) (w : World) (ha : 0 ≤ a) (ka : a < 256) (hb : 0 ≤ b) (kb : b < 256) :
    Calls Tryd.prog 15 #[.int .u8 a, .int .u8 b] w fun e w' => e = .returned (.tuple #[.int .u8 ((Gf.gd0 a.toNat b.toNat : Nat) : Int), .int .i64 (Gf.ge b.toNat)]) ∧ w = w' := by
  by_cases h : b = 0
  · refine (rdiv_zero a b w h).mono ?_
    rintro e w' ⟨rfl, rfl⟩
    subst h
    exact ⟨rfl, rfl⟩
  · refine (rdiv_some a b w ha ka (by omega) kb).mono ?_
    rintro e w' ⟨rfl, rfl⟩
    have h' : ¬ b.toNat = 0 := by omega
    exact ⟨by rw [Gf.gd0, Gf.ge, if_neg h', if_neg h'], rfl⟩
theorem log_u (a : Int) (w : World) (ht : Tabs w) (ha : 0 ≤ a) (ka : a < 256) :
    Calls Tryd.prog 22 #[.int .u8 a] w fun e w' => e = .returned (.tuple #[.int .i64 ((Gf.lg0 a.toNat : Nat) : Int), .int .i64 (Gf.ge a.toNat)]) ∧ w = w' := by
  by_cases h : a = 0
  · refine (glog_zero a w h).mono ?_
    rintro e w' ⟨rfl, rfl⟩
    subst h
    exact ⟨rfl, rfl⟩
  · refine (glog_some a w ht  (by omega) ka).mono ?_
    rintro e w' ⟨rfl, rfl⟩
    have h' : ¬ a.toNat = 0 := by omega
    exact ⟨by rw [Gf.lg0, Gf.ge, if_neg h', if_neg h'], rfl⟩
theorem rlog_u (a : Int) (w : World) (ha : 0 ≤ a) (ka : a < 256) :
    Calls Tryd.prog 23 #[.int .u8 a] w fun e w' => e = .returned (.tuple #[.int .i64 ((Gf.lg0 a.toNat : Nat) : Int), .int .i64 (Gf.ge a.toNat)]) ∧ w = w' := by
  by_cases h : a = 0
  · refine (rlog_zero a w h).mono ?_
    rintro e w' ⟨rfl, rfl⟩
    subst h
    exact ⟨rfl, rfl⟩
  · refine (rlog_pos a w  (by omega) ka).mono ?_
    rintro e w' ⟨rfl, rfl⟩
    have h' : ¬ a.toNat = 0 := by omega
    exact ⟨by rw [Gf.lg0, Gf.ge, if_neg h', if_neg h'], rfl⟩
theorem tmod_rng (n m : Int) (h : 0 < m) : -m < n.tmod m ∧ n.tmod m < m := by
  have h1 := Int.tmod_lt_of_pos n h
  have h2 := Int.lt_tmod_of_pos n h
  omega
set_option maxRecDepth 100000 in
set_option maxHeartbeats 4000000 in
theorem tells_walk (a : Nat) (b : Nat) (w : World) (ht : Tabs w) (ha : a < 256) (hb : b < 256) :
    Calls Tryd.prog 3 #[.int .u8 (a : Int), .int .u8 (b : Int)] w fun e w' => e = .returned (.bool true) ∧ Below w.heap.size w w' := by
  go_enter Tryd.func3, Tryd.ntmps3
  go_wp2_with (first | (go_at_call 13; refine (awake_any _ ht).mono ?_; rintro e w1 ⟨rfl, hb1⟩; have ht1 := ht.below hb1 ht.two) | (go_at_call 14; refine (div_u _ _ _ (by assumption) (by omega) (by omega) (by omega) (by omega)).mono ?_; rintro e w' ⟨rfl, rfl⟩) | (go_at_call 15; refine (rdiv_u _ _ _ (by omega) (by omega) (by omega) (by omega)).mono ?_; rintro e w' ⟨rfl, rfl⟩) | (go_at_call 16; refine (inv_u _ _ (by assumption) (by omega) (by omega)).mono ?_; rintro e w' ⟨rfl, rfl⟩) | (go_at_call 17; refine (rinv_u _ _ (by omega) (by omega)).mono ?_; rintro e w' ⟨rfl, rfl⟩) | (go_at_call 18; refine (add_any _ _ _ (by omega) (by omega) (by omega) (by omega)).mono ?_; rintro e w' ⟨rfl, rfl⟩) | (go_at_call 19; refine (radd_any _ _ _ (by omega) (by omega) (by omega) (by omega)).mono ?_; rintro e w' ⟨rfl, rfl⟩) | (go_at_call 20; refine (mul_any _ _ _ (by assumption) (by omega) (by omega) (by omega) (by omega)).mono ?_; rintro e w' ⟨rfl, rfl⟩) | (go_at_call 21; refine (rmul_any _ _ _ (by omega) (by omega) (by omega) (by omega)).mono ?_; rintro e w' ⟨rfl, rfl⟩))
  go_ret
  exact ⟨rfl, hb1⟩
set_option maxRecDepth 100000 in
set_option maxHeartbeats 4000000 in
theorem powers_zero (n : Int) (a : Nat) (w : World) (ht : Tabs w) (hn : -9223372036854775808 ≤ n) (kn : n ≤ 9223372036854775807) (ha : a < 256) (h0 : a = 0) :
    Calls Tryd.prog 4 #[.int .i64 n, .int .u8 (a : Int)] w fun e w' => e = .returned (.bool true) ∧ Below w.heap.size w w' := by
  subst h0
  have e1 : Gf.ge 0 = 10 := rfl
  have e2 : Gf.lg0 0 = 0 := rfl
  go_enter Tryd.func4, Tryd.ntmps4
  go_wp2_with (first | (go_at_call 13; refine (awake_any _ ht).mono ?_; rintro e w1 ⟨rfl, hb1⟩; have ht1 := ht.below hb1 ht.two) | (go_at_call 14; refine (div_u _ _ _ (by assumption) (by omega) (by omega) (by omega) (by omega)).mono ?_; rintro e w' ⟨rfl, rfl⟩) | (go_at_call 16; refine (inv_u _ _ (by assumption) (by omega) (by omega)).mono ?_; rintro e w' ⟨rfl, rfl⟩) | (go_at_call 22; refine (log_u _ _ (by assumption) (by omega) (by omega)).mono ?_; rintro e w' ⟨rfl, rfl⟩) | (go_at_call 23; refine (rlog_u _ _ (by omega) (by omega)).mono ?_; rintro e w' ⟨rfl, rfl⟩) | (go_at_call 18; refine (add_any _ _ _ (by omega) (by omega) (by omega) (by omega)).mono ?_; rintro e w' ⟨rfl, rfl⟩) | (go_at_call 20; refine (mul_any _ _ _ (by assumption) (by omega) (by omega) (by omega) (by omega)).mono ?_; rintro e w' ⟨rfl, rfl⟩) | (go_at_call 24; refine (exp_any _ _ (by assumption) (by omega) (by omega)).mono ?_; rintro e w' ⟨rfl, rfl⟩) | (go_at_call 25; refine (rexp_any _ _ (by omega) (by omega)).mono ?_; rintro e w' ⟨rfl, rfl⟩))
  go_ret
  exact ⟨rfl, hb1⟩
set_option maxRecDepth 100000 in
set_option maxHeartbeats 4000000 in
theorem powers_some (n : Int) (a : Nat) (w : World) (ht : Tabs w) (hn : -9223372036854775808 ≤ n) (kn : n ≤ 9223372036854775807) (ha : a < 256) (h0 : a ≠ 0) :
    Calls Tryd.prog 4 #[.int .i64 n, .int .u8 (a : Int)] w fun e w' => e = .returned (.bool true) ∧ Below w.heap.size w w' := by
  have e1 : Gf.ge a = 0 := if_neg h0
  have e2 : Gf.lg0 a = Gf.lg a := if_neg h0
  have e3 := Gf.lg_lt a
  have e4 : (((Gf.pw ((Gf.lg a : Int) % 255).toNat : Nat) : Int) == (a : Int)) = true := by rw [show ((Gf.lg a : Int) % 255).toNat = Gf.lg a by omega, (Gf.lg_spec a (by omega) ha).2]; simp
  go_enter Tryd.func4, Tryd.ntmps4
  go_wp2_with (first | (go_at_call 13; refine (awake_any _ ht).mono ?_; rintro e w1 ⟨rfl, hb1⟩; have ht1 := ht.below hb1 ht.two) | (go_at_call 14; refine (div_u _ _ _ (by assumption) (by omega) (by omega) (by omega) (by omega)).mono ?_; rintro e w' ⟨rfl, rfl⟩) | (go_at_call 16; refine (inv_u _ _ (by assumption) (by omega) (by omega)).mono ?_; rintro e w' ⟨rfl, rfl⟩) | (go_at_call 22; refine (log_u _ _ (by assumption) (by omega) (by omega)).mono ?_; rintro e w' ⟨rfl, rfl⟩) | (go_at_call 23; refine (rlog_u _ _ (by omega) (by omega)).mono ?_; rintro e w' ⟨rfl, rfl⟩) | (go_at_call 18; refine (add_any _ _ _ (by omega) (by omega) (by omega) (by omega)).mono ?_; rintro e w' ⟨rfl, rfl⟩) | (go_at_call 20; refine (mul_any _ _ _ (by assumption) (by omega) (by omega) (by omega) (by omega)).mono ?_; rintro e w' ⟨rfl, rfl⟩) | (go_at_call 24; refine (exp_any _ _ (by assumption) (by omega) (by omega)).mono ?_; rintro e w' ⟨rfl, rfl⟩) | (go_at_call 25; refine (rexp_any _ _ (by omega) (by omega)).mono ?_; rintro e w' ⟨rfl, rfl⟩))
  go_ret
  exact ⟨rfl, hb1⟩
set_option maxRecDepth 100000 in
set_option maxHeartbeats 4000000 in
theorem field_zero (a : Nat) (b : Nat) (c : Nat) (w : World) (ht : Tabs w) (ha : a < 256) (hb : b < 256) (hc : c < 256) (h0 : (b : Int) = 0) :
    Calls Tryd.prog 5 #[.int .u8 (a : Int), .int .u8 (b : Int), .int .u8 (c : Int)] w fun e w' => e = .returned (.bool true) ∧ Below w.heap.size w w' := by
  have g1 := Gf.gm_lt a b
  have g2 := Gf.gm_lt b a
  have g3 := Gf.gm_lt b c
  have g4 := Gf.gm_lt a c
  have g5 := Gf.xor_lt ha hb
  have g6 := Gf.xor_lt hb hc
  have g7 := Gf.gm_lt a 1
  have g8 := Gf.gm_lt a 0
  have f1 : (((Gf.gm a b : Nat) : Int) == ((Gf.gm b a : Nat) : Int)) = true := by rw [Gf.gm_comm a b]; exact beq_self_eq_true _
  have f2 : (((Gf.gm (Gf.gm a b) c : Nat) : Int) == ((Gf.gm a (Gf.gm b c) : Nat) : Int)) = true := by rw [Gf.gm_assoc]; exact beq_self_eq_true _
  have f3 : (((Gf.gm a 1 : Nat) : Int) == ((a : Nat) : Int)) = true := by rw [Gf.gm_one ha]; exact beq_self_eq_true _
  have f4 : (((Gf.gm a 0 : Nat) : Int) == 0) = true := by rw [Gf.gm_zero_right]; rfl
  have f5 : (((a ^^^ b : Nat) : Int) == ((b ^^^ a : Nat) : Int)) = true := by rw [Nat.xor_comm a b]; exact beq_self_eq_true _
  have f6 : (((a ^^^ b ^^^ c : Nat) : Int) == ((a ^^^ (b ^^^ c) : Nat) : Int)) = true := by rw [Nat.xor_assoc]; exact beq_self_eq_true _
  have f7 : (((Gf.gm a (b ^^^ c) : Nat) : Int) == ((Gf.gm a b ^^^ Gf.gm a c : Nat) : Int)) = true := by rw [Gf.gm_xor ha hb hc]; exact beq_self_eq_true _
  have t0 : ((b : Int) == 0) = true := by rw [h0]; rfl
  clear h0
  go_enter Tryd.func5, Tryd.ntmps5
  go_wp2_with (first | (go_at_call 13; refine (awake_any _ ht).mono ?_; rintro e w1 ⟨rfl, hb1⟩; have ht1 := ht.below hb1 ht.two) | (go_at_call 14; refine (div_u _ _ _ (by assumption) (by omega) (by omega) (by omega) (by omega)).mono ?_; rintro e w' ⟨rfl, rfl⟩) | (go_at_call 16; refine (inv_u _ _ (by assumption) (by omega) (by omega)).mono ?_; rintro e w' ⟨rfl, rfl⟩) | (go_at_call 22; refine (log_u _ _ (by assumption) (by omega) (by omega)).mono ?_; rintro e w' ⟨rfl, rfl⟩) | (go_at_call 18; refine (add_any _ _ _ (by omega) (by omega) (by omega) (by omega)).mono ?_; rintro e w' ⟨rfl, rfl⟩) | (go_at_call 20; refine (mul_any _ _ _ (by assumption) (by omega) (by omega) (by omega) (by omega)).mono ?_; rintro e w' ⟨rfl, rfl⟩) | (go_at_call 24; refine (exp_any _ _ (by assumption) (by omega) (by omega)).mono ?_; rintro e w' ⟨rfl, rfl⟩))
  go_ret
  exact ⟨rfl, hb1⟩
set_option maxRecDepth 100000 in
set_option maxHeartbeats 4000000 in
theorem field_some (a : Nat) (b : Nat) (c : Nat) (w : World) (ht : Tabs w) (ha : a < 256) (hb : b < 256) (hc : c < 256) (h0 : b ≠ 0) :
    Calls Tryd.prog 5 #[.int .u8 (a : Int), .int .u8 (b : Int), .int .u8 (c : Int)] w fun e w' => e = .returned (.bool true) ∧ Below w.heap.size w w' := by
  have g1 := Gf.gm_lt a b
  have g2 := Gf.gm_lt b a
  have g3 := Gf.gm_lt b c
  have g4 := Gf.gm_lt a c
  have g5 := Gf.xor_lt ha hb
  have g6 := Gf.xor_lt hb hc
  have g7 := Gf.gm_lt a 1
  have g8 := Gf.gm_lt a 0
  have f1 : (((Gf.gm a b : Nat) : Int) == ((Gf.gm b a : Nat) : Int)) = true := by rw [Gf.gm_comm a b]; exact beq_self_eq_true _
  have f2 : (((Gf.gm (Gf.gm a b) c : Nat) : Int) == ((Gf.gm a (Gf.gm b c) : Nat) : Int)) = true := by rw [Gf.gm_assoc]; exact beq_self_eq_true _
  have f3 : (((Gf.gm a 1 : Nat) : Int) == ((a : Nat) : Int)) = true := by rw [Gf.gm_one ha]; exact beq_self_eq_true _
  have f4 : (((Gf.gm a 0 : Nat) : Int) == 0) = true := by rw [Gf.gm_zero_right]; rfl
  have f5 : (((a ^^^ b : Nat) : Int) == ((b ^^^ a : Nat) : Int)) = true := by rw [Nat.xor_comm a b]; exact beq_self_eq_true _
  have f6 : (((a ^^^ b ^^^ c : Nat) : Int) == ((a ^^^ (b ^^^ c) : Nat) : Int)) = true := by rw [Nat.xor_assoc]; exact beq_self_eq_true _
  have f7 : (((Gf.gm a (b ^^^ c) : Nat) : Int) == ((Gf.gm a b ^^^ Gf.gm a c : Nat) : Int)) = true := by rw [Gf.gm_xor ha hb hc]; exact beq_self_eq_true _
  have t0 : ((b : Int) == 0) = false := by simpa using h0
  have u1 : Gf.gd0 (Gf.gm a b) b = a := by rw [Gf.gd0, if_neg h0, Gf.gd_gm ha h0 hb]
  have u2 : Gf.ge b = 0 := if_neg h0
  have u3 : Gf.gi0 b = Gf.gi b := if_neg h0
  have u5 := Gf.gi_lt b
  have u4 : (((Gf.gm (Gf.gi b) b : Nat) : Int) == 1) = true := by rw [Gf.gm_comm, Gf.gm_gi h0 hb]; rfl
  clear h0
  go_enter Tryd.func5, Tryd.ntmps5
  go_wp2_with (first | (go_at_call 13; refine (awake_any _ ht).mono ?_; rintro e w1 ⟨rfl, hb1⟩; have ht1 := ht.below hb1 ht.two) | (go_at_call 14; refine (div_u _ _ _ (by assumption) (by omega) (by omega) (by omega) (by omega)).mono ?_; rintro e w' ⟨rfl, rfl⟩) | (go_at_call 16; refine (inv_u _ _ (by assumption) (by omega) (by omega)).mono ?_; rintro e w' ⟨rfl, rfl⟩) | (go_at_call 22; refine (log_u _ _ (by assumption) (by omega) (by omega)).mono ?_; rintro e w' ⟨rfl, rfl⟩) | (go_at_call 18; refine (add_any _ _ _ (by omega) (by omega) (by omega) (by omega)).mono ?_; rintro e w' ⟨rfl, rfl⟩) | (go_at_call 20; refine (mul_any _ _ _ (by assumption) (by omega) (by omega) (by omega) (by omega)).mono ?_; rintro e w' ⟨rfl, rfl⟩) | (go_at_call 24; refine (exp_any _ _ (by assumption) (by omega) (by omega)).mono ?_; rintro e w' ⟨rfl, rfl⟩))
  go_ret
  exact ⟨rfl, hb1⟩
set_option maxRecDepth 100000 in
set_option maxHeartbeats 4000000 in
theorem once_zero (a : Nat) (b : Nat) (w : World) (ht : Tabs w) (ha : a < 256) (hb : b < 256) (h0 : a = 0) :
    Calls Tryd.prog 6 #[.int .u8 (a : Int), .int .u8 (b : Int)] w fun e w' => e = .returned (.bool true) ∧ Below w.heap.size w w' := by
  subst h0
  have e1 : Gf.ge 0 = 10 := rfl
  go_enter Tryd.func6, Tryd.ntmps6
  go_wp2_with (first | (go_at_call 13; refine (awake_any _ ht).mono ?_; rintro e w1 ⟨rfl, hb1⟩; have ht1 := ht.below hb1 ht.two) | (go_at_call 14; refine (div_u _ _ _ (by assumption) (by omega) (by omega) (by omega) (by omega)).mono ?_; rintro e w' ⟨rfl, rfl⟩) | (go_at_call 16; refine (inv_u _ _ (by assumption) (by omega) (by omega)).mono ?_; rintro e w' ⟨rfl, rfl⟩) | (go_at_call 22; refine (log_u _ _ (by assumption) (by omega) (by omega)).mono ?_; rintro e w' ⟨rfl, rfl⟩) | (go_at_call 18; refine (add_any _ _ _ (by omega) (by omega) (by omega) (by omega)).mono ?_; rintro e w' ⟨rfl, rfl⟩) | (go_at_call 20; refine (mul_any _ _ _ (by assumption) (by omega) (by omega) (by omega) (by omega)).mono ?_; rintro e w' ⟨rfl, rfl⟩) | (go_at_call 24; refine (exp_any _ _ (by assumption) (by omega) (by omega)).mono ?_; rintro e w' ⟨rfl, rfl⟩))
  go_ret
  exact ⟨rfl, hb1⟩
set_option maxRecDepth 100000 in
set_option maxHeartbeats 4000000 in
theorem once_zero2 (a : Nat) (b : Nat) (w : World) (ht : Tabs w) (ha : a < 256) (hb : b < 256) (h0 : a ≠ 0) (h1 : b = 0) :
    Calls Tryd.prog 6 #[.int .u8 (a : Int), .int .u8 (b : Int)] w fun e w' => e = .returned (.bool true) ∧ Below w.heap.size w w' := by
  subst h1
  have t0 : ((a : Int) == 0) = false := by simpa using h0
  have t0' : ((a : Int) != 0) = true := by simpa using h0
  go_enter Tryd.func6, Tryd.ntmps6
  go_wp2_with (first | (go_at_call 13; refine (awake_any _ ht).mono ?_; rintro e w1 ⟨rfl, hb1⟩; have ht1 := ht.below hb1 ht.two) | (go_at_call 14; refine (div_u _ _ _ (by assumption) (by omega) (by omega) (by omega) (by omega)).mono ?_; rintro e w' ⟨rfl, rfl⟩) | (go_at_call 16; refine (inv_u _ _ (by assumption) (by omega) (by omega)).mono ?_; rintro e w' ⟨rfl, rfl⟩) | (go_at_call 22; refine (log_u _ _ (by assumption) (by omega) (by omega)).mono ?_; rintro e w' ⟨rfl, rfl⟩) | (go_at_call 18; refine (add_any _ _ _ (by omega) (by omega) (by omega) (by omega)).mono ?_; rintro e w' ⟨rfl, rfl⟩) | (go_at_call 20; refine (mul_any _ _ _ (by assumption) (by omega) (by omega) (by omega) (by omega)).mono ?_; rintro e w' ⟨rfl, rfl⟩) | (go_at_call 24; refine (exp_any _ _ (by assumption) (by omega) (by omega)).mono ?_; rintro e w' ⟨rfl, rfl⟩))
  go_ret
  exact ⟨rfl, hb1⟩
set_option maxRecDepth 100000 in
set_option maxHeartbeats 4000000 in
theorem once_same (a : Nat) (b : Nat) (w : World) (ht : Tabs w) (ha : a < 256) (hb : b < 256) (h0 : a ≠ 0) (h1 : b ≠ 0) (h2 : a = b) :
    Calls Tryd.prog 6 #[.int .u8 (a : Int), .int .u8 (b : Int)] w fun e w' => e = .returned (.bool true) ∧ Below w.heap.size w w' := by
  subst h2
  have t0 : ((a : Int) == 0) = false := by simpa using h0
  have e1 : Gf.ge a = 0 := if_neg h0
  have e3 : Gf.lg0 a = Gf.lg a := if_neg h0
  have e5 : Gf.gi0 a = Gf.gi a := if_neg h0
  have e7 := Gf.lg_lt a
  have e9 : (((Gf.pw (((Gf.lg a : Nat) : Int) % 255).toNat : Nat) : Int) == (a : Int)) = true := by rw [show ((Gf.lg a : Int) % 255).toNat = Gf.lg a by omega, (Gf.lg_spec a (by omega) ha).2]; simp
  clear h0
  go_enter Tryd.func6, Tryd.ntmps6
  go_wp2_with (first | (go_at_call 13; refine (awake_any _ ht).mono ?_; rintro e w1 ⟨rfl, hb1⟩; have ht1 := ht.below hb1 ht.two) | (go_at_call 14; refine (div_u _ _ _ (by assumption) (by omega) (by omega) (by omega) (by omega)).mono ?_; rintro e w' ⟨rfl, rfl⟩) | (go_at_call 16; refine (inv_u _ _ (by assumption) (by omega) (by omega)).mono ?_; rintro e w' ⟨rfl, rfl⟩) | (go_at_call 22; refine (log_u _ _ (by assumption) (by omega) (by omega)).mono ?_; rintro e w' ⟨rfl, rfl⟩) | (go_at_call 18; refine (add_any _ _ _ (by omega) (by omega) (by omega) (by omega)).mono ?_; rintro e w' ⟨rfl, rfl⟩) | (go_at_call 20; refine (mul_any _ _ _ (by assumption) (by omega) (by omega) (by omega) (by omega)).mono ?_; rintro e w' ⟨rfl, rfl⟩) | (go_at_call 24; refine (exp_any _ _ (by assumption) (by omega) (by omega)).mono ?_; rintro e w' ⟨rfl, rfl⟩))
  go_ret
  exact ⟨rfl, hb1⟩
set_option maxRecDepth 100000 in
set_option maxHeartbeats 4000000 in
theorem once_other (a : Nat) (b : Nat) (w : World) (ht : Tabs w) (ha : a < 256) (hb : b < 256) (h0 : a ≠ 0) (h1 : b ≠ 0) (h2 : a ≠ b) :
    Calls Tryd.prog 6 #[.int .u8 (a : Int), .int .u8 (b : Int)] w fun e w' => e = .returned (.bool true) ∧ Below w.heap.size w w' := by
  have t0 : ((a : Int) == 0) = false := by simpa using h0
  have e1 : Gf.ge a = 0 := if_neg h0
  have e3 : Gf.lg0 a = Gf.lg a := if_neg h0
  have e5 : Gf.gi0 a = Gf.gi a := if_neg h0
  have e7 := Gf.lg_lt a
  have e9 : (((Gf.pw (((Gf.lg a : Nat) : Int) % 255).toNat : Nat) : Int) == (a : Int)) = true := by rw [show ((Gf.lg a : Int) % 255).toNat = Gf.lg a by omega, (Gf.lg_spec a (by omega) ha).2]; simp
  have t1 : ((b : Int) == 0) = false := by simpa using h1
  have e2 : Gf.ge b = 0 := if_neg h1
  have e4 : Gf.lg0 b = Gf.lg b := if_neg h1
  have e6 : Gf.gi0 b = Gf.gi b := if_neg h1
  have e8 := Gf.lg_lt b
  have s0 : ((a : Int) == (b : Int)) = false := by rw [beq_eq_false_iff_ne]; omega
  have s1 : (((Gf.gi a : Nat) : Int) == ((Gf.gi b : Nat) : Int)) = false := by rw [beq_eq_false_iff_ne]; exact fun h => h2 (Gf.gi_inj h0 ha h1 hb (by omega))
  have s2 : (((Gf.lg a : Nat) : Int) == ((Gf.lg b : Nat) : Int)) = false := by rw [beq_eq_false_iff_ne]; exact fun h => h2 (Gf.lg_inj h0 ha h1 hb (by omega))
  clear h0 h1 h2
  go_enter Tryd.func6, Tryd.ntmps6
  go_wp2_with (first | (go_at_call 13; refine (awake_any _ ht).mono ?_; rintro e w1 ⟨rfl, hb1⟩; have ht1 := ht.below hb1 ht.two) | (go_at_call 14; refine (div_u _ _ _ (by assumption) (by omega) (by omega) (by omega) (by omega)).mono ?_; rintro e w' ⟨rfl, rfl⟩) | (go_at_call 16; refine (inv_u _ _ (by assumption) (by omega) (by omega)).mono ?_; rintro e w' ⟨rfl, rfl⟩) | (go_at_call 22; refine (log_u _ _ (by assumption) (by omega) (by omega)).mono ?_; rintro e w' ⟨rfl, rfl⟩) | (go_at_call 18; refine (add_any _ _ _ (by omega) (by omega) (by omega) (by omega)).mono ?_; rintro e w' ⟨rfl, rfl⟩) | (go_at_call 20; refine (mul_any _ _ _ (by assumption) (by omega) (by omega) (by omega) (by omega)).mono ?_; rintro e w' ⟨rfl, rfl⟩) | (go_at_call 24; refine (exp_any _ _ (by assumption) (by omega) (by omega)).mono ?_; rintro e w' ⟨rfl, rfl⟩))
  go_ret
  exact ⟨rfl, hb1⟩
set_option maxRecDepth 100000 in
set_option maxHeartbeats 4000000 in
theorem adds_walk (n : Int) (m : Int) (w : World) (ht : Tabs w) (hn : -9223372036854775808 ≤ n) (kn : n ≤ 9223372036854775807) (hm : -9223372036854775808 ≤ m) (km : m ≤ 9223372036854775807) :
    Calls Tryd.prog 7 #[.int .i64 n, .int .i64 m] w fun e w' => e = .returned (.bool true) ∧ Below w.heap.size w w' := by
  have a1 : -1099511627776 < n.tmod 1099511627776 ∧ n.tmod 1099511627776 < 1099511627776 := tmod_rng n _ (by omega)
  have a2 : -1099511627776 < m.tmod 1099511627776 ∧ m.tmod 1099511627776 < 1099511627776 := tmod_rng m _ (by omega)
  have p1 := Gf.pw_lt ((n.tmod 1099511627776) % 255).toNat
  have p2 := Gf.pw_lt ((m.tmod 1099511627776) % 255).toNat
  have q : (((Gf.gm (Gf.pw ((n.tmod 1099511627776) % 255).toNat) (Gf.pw ((m.tmod 1099511627776) % 255).toNat) : Nat) : Int) == ((Gf.pw (((n.tmod 1099511627776) + (m.tmod 1099511627776)) % 255).toNat : Nat) : Int)) = true := by rw [Gf.pw_add _ _ (by omega) (by omega), show (((n.tmod 1099511627776) % 255).toNat + ((m.tmod 1099511627776) % 255).toNat) % 255 = (((n.tmod 1099511627776) + (m.tmod 1099511627776)) % 255).toNat by omega]; exact beq_self_eq_true _
  go_enter Tryd.func7, Tryd.ntmps7
  go_wp2_with (first | (go_at_call 13; refine (awake_any _ ht).mono ?_; rintro e w1 ⟨rfl, hb1⟩; have ht1 := ht.below hb1 ht.two) | (go_at_call 14; refine (div_u _ _ _ (by assumption) (by omega) (by omega) (by omega) (by omega)).mono ?_; rintro e w' ⟨rfl, rfl⟩) | (go_at_call 16; refine (inv_u _ _ (by assumption) (by omega) (by omega)).mono ?_; rintro e w' ⟨rfl, rfl⟩) | (go_at_call 22; refine (log_u _ _ (by assumption) (by omega) (by omega)).mono ?_; rintro e w' ⟨rfl, rfl⟩) | (go_at_call 18; refine (add_any _ _ _ (by omega) (by omega) (by omega) (by omega)).mono ?_; rintro e w' ⟨rfl, rfl⟩) | (go_at_call 20; refine (mul_any _ _ _ (by assumption) (by omega) (by omega) (by omega) (by omega)).mono ?_; rintro e w' ⟨rfl, rfl⟩) | (go_at_call 24; refine (exp_any _ _ (by assumption) (by omega) (by omega)).mono ?_; rintro e w' ⟨rfl, rfl⟩))
  go_ret
  exact ⟨rfl, hb1⟩
set_option maxRecDepth 100000 in
set_option maxHeartbeats 4000000 in
theorem nought_zero (a : Nat) (b : Nat) (w : World) (ht : Tabs w) (ha : a < 256) (hb : b < 256) (h0 : a = 0) :
    Calls Tryd.prog 9 #[.int .u8 (a : Int), .int .u8 (b : Int)] w fun e w' => e = .returned (.bool true) ∧ Below w.heap.size w w' := by
  subst h0
  have g1 : Gf.gm 0 b = 0 := Gf.gm_zero_left b
  go_enter Tryd.func9, Tryd.ntmps9
  go_wp2_with (first | (go_at_call 13; refine (awake_any _ ht).mono ?_; rintro e w1 ⟨rfl, hb1⟩; have ht1 := ht.below hb1 ht.two) | (go_at_call 14; refine (div_u _ _ _ (by assumption) (by omega) (by omega) (by omega) (by omega)).mono ?_; rintro e w' ⟨rfl, rfl⟩) | (go_at_call 16; refine (inv_u _ _ (by assumption) (by omega) (by omega)).mono ?_; rintro e w' ⟨rfl, rfl⟩) | (go_at_call 22; refine (log_u _ _ (by assumption) (by omega) (by omega)).mono ?_; rintro e w' ⟨rfl, rfl⟩) | (go_at_call 18; refine (add_any _ _ _ (by omega) (by omega) (by omega) (by omega)).mono ?_; rintro e w' ⟨rfl, rfl⟩) | (go_at_call 20; refine (mul_any _ _ _ (by assumption) (by omega) (by omega) (by omega) (by omega)).mono ?_; rintro e w' ⟨rfl, rfl⟩) | (go_at_call 24; refine (exp_any _ _ (by assumption) (by omega) (by omega)).mono ?_; rintro e w' ⟨rfl, rfl⟩))
  go_ret
  exact ⟨rfl, hb1⟩
set_option maxRecDepth 100000 in
set_option maxHeartbeats 4000000 in
theorem nought_zero2 (a : Nat) (b : Nat) (w : World) (ht : Tabs w) (ha : a < 256) (hb : b < 256) (h0 : a ≠ 0) (h1 : b = 0) :
    Calls Tryd.prog 9 #[.int .u8 (a : Int), .int .u8 (b : Int)] w fun e w' => e = .returned (.bool true) ∧ Below w.heap.size w w' := by
  subst h1
  have g1 : Gf.gm a 0 = 0 := Gf.gm_zero_right a
  have t0 : ((a : Int) == 0) = false := by simpa using h0
  go_enter Tryd.func9, Tryd.ntmps9
  go_wp2_with (first | (go_at_call 13; refine (awake_any _ ht).mono ?_; rintro e w1 ⟨rfl, hb1⟩; have ht1 := ht.below hb1 ht.two) | (go_at_call 14; refine (div_u _ _ _ (by assumption) (by omega) (by omega) (by omega) (by omega)).mono ?_; rintro e w' ⟨rfl, rfl⟩) | (go_at_call 16; refine (inv_u _ _ (by assumption) (by omega) (by omega)).mono ?_; rintro e w' ⟨rfl, rfl⟩) | (go_at_call 22; refine (log_u _ _ (by assumption) (by omega) (by omega)).mono ?_; rintro e w' ⟨rfl, rfl⟩) | (go_at_call 18; refine (add_any _ _ _ (by omega) (by omega) (by omega) (by omega)).mono ?_; rintro e w' ⟨rfl, rfl⟩) | (go_at_call 20; refine (mul_any _ _ _ (by assumption) (by omega) (by omega) (by omega) (by omega)).mono ?_; rintro e w' ⟨rfl, rfl⟩) | (go_at_call 24; refine (exp_any _ _ (by assumption) (by omega) (by omega)).mono ?_; rintro e w' ⟨rfl, rfl⟩))
  go_ret
  exact ⟨rfl, hb1⟩
set_option maxRecDepth 100000 in
set_option maxHeartbeats 4000000 in
theorem nought_some (a : Nat) (b : Nat) (w : World) (ht : Tabs w) (ha : a < 256) (hb : b < 256) (h0 : a ≠ 0) (h1 : b ≠ 0) :
    Calls Tryd.prog 9 #[.int .u8 (a : Int), .int .u8 (b : Int)] w fun e w' => e = .returned (.bool true) ∧ Below w.heap.size w w' := by
  have t0 : ((a : Int) == 0) = false := by simpa using h0
  have t1 : ((b : Int) == 0) = false := by simpa using h1
  have g1 : (((Gf.gm a b : Nat) : Int) == 0) = false := by have := Gf.gm_pos h0 h1; rw [beq_eq_false_iff_ne]; omega
  clear h0 h1
  go_enter Tryd.func9, Tryd.ntmps9
  go_wp2_with (first | (go_at_call 13; refine (awake_any _ ht).mono ?_; rintro e w1 ⟨rfl, hb1⟩; have ht1 := ht.below hb1 ht.two) | (go_at_call 14; refine (div_u _ _ _ (by assumption) (by omega) (by omega) (by omega) (by omega)).mono ?_; rintro e w' ⟨rfl, rfl⟩) | (go_at_call 16; refine (inv_u _ _ (by assumption) (by omega) (by omega)).mono ?_; rintro e w' ⟨rfl, rfl⟩) | (go_at_call 22; refine (log_u _ _ (by assumption) (by omega) (by omega)).mono ?_; rintro e w' ⟨rfl, rfl⟩) | (go_at_call 18; refine (add_any _ _ _ (by omega) (by omega) (by omega) (by omega)).mono ?_; rintro e w' ⟨rfl, rfl⟩) | (go_at_call 20; refine (mul_any _ _ _ (by assumption) (by omega) (by omega) (by omega) (by omega)).mono ?_; rintro e w' ⟨rfl, rfl⟩) | (go_at_call 24; refine (exp_any _ _ (by assumption) (by omega) (by omega)).mono ?_; rintro e w' ⟨rfl, rfl⟩))
  go_ret
  exact ⟨rfl, hb1⟩
set_option maxRecDepth 100000 in
set_option maxHeartbeats 4000000 in
theorem squares_other (a : Nat) (b : Nat) (w : World) (ht : Tabs w) (ha : a < 256) (hb : b < 256) (h0 : a ≠ b) :
    Calls Tryd.prog 10 #[.int .u8 (a : Int), .int .u8 (b : Int)] w fun e w' => e = .returned (.bool true) ∧ Below w.heap.size w w' := by
  have g1 := Gf.gm_lt a a
  have g2 := Gf.gm_lt b b
  have g3 := Gf.xor_lt ha hb
  have f1 : (((Gf.gm (a ^^^ b) (a ^^^ b) : Nat) : Int) == ((Gf.gm a a ^^^ Gf.gm b b : Nat) : Int)) = true := by rw [Gf.sq_xor ha hb]; exact beq_self_eq_true _
  have t0 : ((a : Int) == (b : Int)) = false := by rw [beq_eq_false_iff_ne]; omega
  have t1 : (((Gf.gm a a : Nat) : Int) == ((Gf.gm b b : Nat) : Int)) = false := by rw [beq_eq_false_iff_ne]; exact fun h => h0 (Gf.sq_inj ha hb (by omega))
  clear h0
  go_enter Tryd.func10, Tryd.ntmps10
  go_wp2_with (first | (go_at_call 13; refine (awake_any _ ht).mono ?_; rintro e w1 ⟨rfl, hb1⟩; have ht1 := ht.below hb1 ht.two) | (go_at_call 14; refine (div_u _ _ _ (by assumption) (by omega) (by omega) (by omega) (by omega)).mono ?_; rintro e w' ⟨rfl, rfl⟩) | (go_at_call 16; refine (inv_u _ _ (by assumption) (by omega) (by omega)).mono ?_; rintro e w' ⟨rfl, rfl⟩) | (go_at_call 22; refine (log_u _ _ (by assumption) (by omega) (by omega)).mono ?_; rintro e w' ⟨rfl, rfl⟩) | (go_at_call 18; refine (add_any _ _ _ (by omega) (by omega) (by omega) (by omega)).mono ?_; rintro e w' ⟨rfl, rfl⟩) | (go_at_call 20; refine (mul_any _ _ _ (by assumption) (by omega) (by omega) (by omega) (by omega)).mono ?_; rintro e w' ⟨rfl, rfl⟩) | (go_at_call 24; refine (exp_any _ _ (by assumption) (by omega) (by omega)).mono ?_; rintro e w' ⟨rfl, rfl⟩))
  go_ret
  exact ⟨rfl, hb1⟩
set_option maxRecDepth 100000 in
set_option maxHeartbeats 4000000 in
theorem squares_same (a : Nat) (b : Nat) (w : World) (ht : Tabs w) (ha : a < 256) (hb : b < 256) (h0 : a = b) :
    Calls Tryd.prog 10 #[.int .u8 (a : Int), .int .u8 (b : Int)] w fun e w' => e = .returned (.bool true) ∧ Below w.heap.size w w' := by
  subst h0
  have g1 := Gf.gm_lt a a
  have g3 := Gf.xor_lt ha ha
  have f1 : (((Gf.gm (a ^^^ a) (a ^^^ a) : Nat) : Int) == ((Gf.gm a a ^^^ Gf.gm a a : Nat) : Int)) = true := by rw [Gf.sq_xor ha ha]; exact beq_self_eq_true _
  go_enter Tryd.func10, Tryd.ntmps10
  go_wp2_with (first | (go_at_call 13; refine (awake_any _ ht).mono ?_; rintro e w1 ⟨rfl, hb1⟩; have ht1 := ht.below hb1 ht.two) | (go_at_call 14; refine (div_u _ _ _ (by assumption) (by omega) (by omega) (by omega) (by omega)).mono ?_; rintro e w' ⟨rfl, rfl⟩) | (go_at_call 16; refine (inv_u _ _ (by assumption) (by omega) (by omega)).mono ?_; rintro e w' ⟨rfl, rfl⟩) | (go_at_call 22; refine (log_u _ _ (by assumption) (by omega) (by omega)).mono ?_; rintro e w' ⟨rfl, rfl⟩) | (go_at_call 18; refine (add_any _ _ _ (by omega) (by omega) (by omega) (by omega)).mono ?_; rintro e w' ⟨rfl, rfl⟩) | (go_at_call 20; refine (mul_any _ _ _ (by assumption) (by omega) (by omega) (by omega) (by omega)).mono ?_; rintro e w' ⟨rfl, rfl⟩) | (go_at_call 24; refine (exp_any _ _ (by assumption) (by omega) (by omega)).mono ?_; rintro e w' ⟨rfl, rfl⟩))
  go_ret
  exact ⟨rfl, hb1⟩
set_option maxRecDepth 100000 in
set_option maxHeartbeats 4000000 in
theorem order_same (n : Int) (m : Int) (w : World) (ht : Tabs w) (hn : -9223372036854775808 ≤ n) (kn : n ≤ 9223372036854775807) (hm : -9223372036854775808 ≤ m) (km : m ≤ 9223372036854775807) (h0 : ((n.tmod 1099511627776) - (m.tmod 1099511627776)) % 255 = 0) :
    Calls Tryd.prog 11 #[.int .i64 n, .int .i64 m] w fun e w' => e = .returned (.bool true) ∧ Below w.heap.size w w' := by
  have a1 : -1099511627776 < n.tmod 1099511627776 ∧ n.tmod 1099511627776 < 1099511627776 := tmod_rng n _ (by omega)
  have a2 : -1099511627776 < m.tmod 1099511627776 ∧ m.tmod 1099511627776 < 1099511627776 := tmod_rng m _ (by omega)
  have p1 := Gf.pw_lt ((n.tmod 1099511627776) % 255).toNat
  have p2 := Gf.pw_lt ((m.tmod 1099511627776) % 255).toNat
  have q1 : (((Gf.pw ((n.tmod 1099511627776) % 255).toNat : Nat) : Int) == ((Gf.pw ((m.tmod 1099511627776) % 255).toNat : Nat) : Int)) = true := by rw [show ((n.tmod 1099511627776) % 255).toNat = ((m.tmod 1099511627776) % 255).toNat by omega]; exact beq_self_eq_true _
  have q2 : (((n.tmod 1099511627776) - (m.tmod 1099511627776)).tmod 255 == 0) = true := by rw [Int.tmod_eq_zero_of_dvd (Int.dvd_of_emod_eq_zero h0)]; rfl
  have q3 : (((Gf.pw ((n.tmod 1099511627776) % 255).toNat : Nat) : Int) != 0) = true := by have := (Gf.pw_spec ((n.tmod 1099511627776) % 255).toNat (by omega)).1; rw [bne_iff_ne]; omega
  clear h0
  go_enter Tryd.func11, Tryd.ntmps11
  go_wp2_with (first | (go_at_call 13; refine (awake_any _ ht).mono ?_; rintro e w1 ⟨rfl, hb1⟩; have ht1 := ht.below hb1 ht.two) | (go_at_call 14; refine (div_u _ _ _ (by assumption) (by omega) (by omega) (by omega) (by omega)).mono ?_; rintro e w' ⟨rfl, rfl⟩) | (go_at_call 16; refine (inv_u _ _ (by assumption) (by omega) (by omega)).mono ?_; rintro e w' ⟨rfl, rfl⟩) | (go_at_call 22; refine (log_u _ _ (by assumption) (by omega) (by omega)).mono ?_; rintro e w' ⟨rfl, rfl⟩) | (go_at_call 18; refine (add_any _ _ _ (by omega) (by omega) (by omega) (by omega)).mono ?_; rintro e w' ⟨rfl, rfl⟩) | (go_at_call 20; refine (mul_any _ _ _ (by assumption) (by omega) (by omega) (by omega) (by omega)).mono ?_; rintro e w' ⟨rfl, rfl⟩) | (go_at_call 24; refine (exp_any _ _ (by assumption) (by omega) (by omega)).mono ?_; rintro e w' ⟨rfl, rfl⟩))
  go_ret
  exact ⟨rfl, hb1⟩
set_option maxRecDepth 100000 in
set_option maxHeartbeats 4000000 in
theorem order_other (n : Int) (m : Int) (w : World) (ht : Tabs w) (hn : -9223372036854775808 ≤ n) (kn : n ≤ 9223372036854775807) (hm : -9223372036854775808 ≤ m) (km : m ≤ 9223372036854775807) (h0 : ((n.tmod 1099511627776) - (m.tmod 1099511627776)) % 255 ≠ 0) :
    Calls Tryd.prog 11 #[.int .i64 n, .int .i64 m] w fun e w' => e = .returned (.bool true) ∧ Below w.heap.size w w' := by
  have a1 : -1099511627776 < n.tmod 1099511627776 ∧ n.tmod 1099511627776 < 1099511627776 := tmod_rng n _ (by omega)
  have a2 : -1099511627776 < m.tmod 1099511627776 ∧ m.tmod 1099511627776 < 1099511627776 := tmod_rng m _ (by omega)
  have p1 := Gf.pw_lt ((n.tmod 1099511627776) % 255).toNat
  have p2 := Gf.pw_lt ((m.tmod 1099511627776) % 255).toNat
  have q1 : (((Gf.pw ((n.tmod 1099511627776) % 255).toNat : Nat) : Int) == ((Gf.pw ((m.tmod 1099511627776) % 255).toNat : Nat) : Int)) = false := by rw [beq_eq_false_iff_ne]; intro h; have := Gf.pw_inj (n := ((n.tmod 1099511627776) % 255).toNat) (m := ((m.tmod 1099511627776) % 255).toNat) (by omega) (by omega) (by omega); omega
  have q2 : (((n.tmod 1099511627776) - (m.tmod 1099511627776)).tmod 255 == 0) = false := by rw [beq_eq_false_iff_ne]; intro h; exact h0 (Int.emod_eq_zero_of_dvd (Int.dvd_of_tmod_eq_zero h))
  have q3 : (((Gf.pw ((n.tmod 1099511627776) % 255).toNat : Nat) : Int) != 0) = true := by have := (Gf.pw_spec ((n.tmod 1099511627776) % 255).toNat (by omega)).1; rw [bne_iff_ne]; omega
  clear h0
  go_enter Tryd.func11, Tryd.ntmps11
  go_wp2_with (first | (go_at_call 13; refine (awake_any _ ht).mono ?_; rintro e w1 ⟨rfl, hb1⟩; have ht1 := ht.below hb1 ht.two) | (go_at_call 14; refine (div_u _ _ _ (by assumption) (by omega) (by omega) (by omega) (by omega)).mono ?_; rintro e w' ⟨rfl, rfl⟩) | (go_at_call 16; refine (inv_u _ _ (by assumption) (by omega) (by omega)).mono ?_; rintro e w' ⟨rfl, rfl⟩) | (go_at_call 22; refine (log_u _ _ (by assumption) (by omega) (by omega)).mono ?_; rintro e w' ⟨rfl, rfl⟩) | (go_at_call 18; refine (add_any _ _ _ (by omega) (by omega) (by omega) (by omega)).mono ?_; rintro e w' ⟨rfl, rfl⟩) | (go_at_call 20; refine (mul_any _ _ _ (by assumption) (by omega) (by omega) (by omega) (by omega)).mono ?_; rintro e w' ⟨rfl, rfl⟩) | (go_at_call 24; refine (exp_any _ _ (by assumption) (by omega) (by omega)).mono ?_; rintro e w' ⟨rfl, rfl⟩))
  go_ret
  exact ⟨rfl, hb1⟩
set_option maxRecDepth 100000 in
set_option maxHeartbeats 4000000 in
theorem shares_zero (a : Nat) (b : Nat) (c : Nat) (d : Nat) (w : World) (ht : Tabs w) (ha : a < 256) (hb : b < 256) (hc : c < 256) (hd : d < 256) (h0 : c = 0) :
    Calls Tryd.prog 12 #[.int .u8 (a : Int), .int .u8 (b : Int), .int .u8 (c : Int), .int .u8 (d : Int)] w fun e w' => e = .returned (.bool true) ∧ Below w.heap.size w w' := by
  subst h0
  go_enter Tryd.func12, Tryd.ntmps12
  go_wp2_with (first | (go_at_call 13; refine (awake_any _ ht).mono ?_; rintro e w1 ⟨rfl, hb1⟩; have ht1 := ht.below hb1 ht.two) | (go_at_call 14; refine (div_u _ _ _ (by assumption) (by omega) (by omega) (by omega) (by omega)).mono ?_; rintro e w' ⟨rfl, rfl⟩) | (go_at_call 16; refine (inv_u _ _ (by assumption) (by omega) (by omega)).mono ?_; rintro e w' ⟨rfl, rfl⟩) | (go_at_call 22; refine (log_u _ _ (by assumption) (by omega) (by omega)).mono ?_; rintro e w' ⟨rfl, rfl⟩) | (go_at_call 18; refine (add_any _ _ _ (by omega) (by omega) (by omega) (by omega)).mono ?_; rintro e w' ⟨rfl, rfl⟩) | (go_at_call 20; refine (mul_any _ _ _ (by assumption) (by omega) (by omega) (by omega) (by omega)).mono ?_; rintro e w' ⟨rfl, rfl⟩) | (go_at_call 24; refine (exp_any _ _ (by assumption) (by omega) (by omega)).mono ?_; rintro e w' ⟨rfl, rfl⟩))
  go_ret
  exact ⟨rfl, hb1⟩
set_option maxRecDepth 100000 in
set_option maxHeartbeats 4000000 in
theorem shares_zero2 (a : Nat) (b : Nat) (c : Nat) (d : Nat) (w : World) (ht : Tabs w) (ha : a < 256) (hb : b < 256) (hc : c < 256) (hd : d < 256) (h0 : c ≠ 0) (h1 : d = 0) :
    Calls Tryd.prog 12 #[.int .u8 (a : Int), .int .u8 (b : Int), .int .u8 (c : Int), .int .u8 (d : Int)] w fun e w' => e = .returned (.bool true) ∧ Below w.heap.size w w' := by
  subst h1
  have t0 : ((c : Int) == 0) = false := by simpa using h0
  go_enter Tryd.func12, Tryd.ntmps12
  go_wp2_with (first | (go_at_call 13; refine (awake_any _ ht).mono ?_; rintro e w1 ⟨rfl, hb1⟩; have ht1 := ht.below hb1 ht.two) | (go_at_call 14; refine (div_u _ _ _ (by assumption) (by omega) (by omega) (by omega) (by omega)).mono ?_; rintro e w' ⟨rfl, rfl⟩) | (go_at_call 16; refine (inv_u _ _ (by assumption) (by omega) (by omega)).mono ?_; rintro e w' ⟨rfl, rfl⟩) | (go_at_call 22; refine (log_u _ _ (by assumption) (by omega) (by omega)).mono ?_; rintro e w' ⟨rfl, rfl⟩) | (go_at_call 18; refine (add_any _ _ _ (by omega) (by omega) (by omega) (by omega)).mono ?_; rintro e w' ⟨rfl, rfl⟩) | (go_at_call 20; refine (mul_any _ _ _ (by assumption) (by omega) (by omega) (by omega) (by omega)).mono ?_; rintro e w' ⟨rfl, rfl⟩) | (go_at_call 24; refine (exp_any _ _ (by assumption) (by omega) (by omega)).mono ?_; rintro e w' ⟨rfl, rfl⟩))
  go_ret
  exact ⟨rfl, hb1⟩
set_option maxRecDepth 100000 in
set_option maxHeartbeats 4000000 in
theorem shares_some (a : Nat) (b : Nat) (c : Nat) (d : Nat) (w : World) (ht : Tabs w) (ha : a < 256) (hb : b < 256) (hc : c < 256) (hd : d < 256) (h0 : c ≠ 0) (h1 : d ≠ 0) :
    Calls Tryd.prog 12 #[.int .u8 (a : Int), .int .u8 (b : Int), .int .u8 (c : Int), .int .u8 (d : Int)] w fun e w' => e = .returned (.bool true) ∧ Below w.heap.size w w' := by
  have t0 : ((c : Int) == 0) = false := by simpa using h0
  have t1 : ((d : Int) == 0) = false := by simpa using h1
  have g1 := Gf.xor_lt ha hb
  have g2 := Gf.gm_lt c d
  have g3 := Gf.gd_lt a c
  have e0 := Gf.gm_pos h0 h1
  have e1 : ∀ x, Gf.gd0 x c = Gf.gd x c := fun x => if_neg h0
  have e2 : ∀ x, Gf.gd0 x d = Gf.gd x d := fun x => if_neg h1
  have e3 : ∀ x, Gf.gd0 x (Gf.gm c d) = Gf.gd x (Gf.gm c d) := fun x => if_neg e0
  have e4 : Gf.ge (Gf.gm c d) = 0 := if_neg e0
  have f1 : (((Gf.gd (a ^^^ b) c : Nat) : Int) == ((Gf.gd a c ^^^ Gf.gd b c : Nat) : Int)) = true := by rw [Gf.gd_xor ha hb]; exact beq_self_eq_true _
  have f2 : (((Gf.gd (Gf.gd a c) d : Nat) : Int) == ((Gf.gd a (Gf.gm c d) : Nat) : Int)) = true := by rw [Gf.gd_gd h0 hc h1 hd]; exact beq_self_eq_true _
  have g4 := Gf.gd_lt b c
  clear h0 h1 e0
  go_enter Tryd.func12, Tryd.ntmps12
  go_wp2_with (first | (go_at_call 13; refine (awake_any _ ht).mono ?_; rintro e w1 ⟨rfl, hb1⟩; have ht1 := ht.below hb1 ht.two) | (go_at_call 14; refine (div_u _ _ _ (by assumption) (by omega) (by omega) (by omega) (by omega)).mono ?_; rintro e w' ⟨rfl, rfl⟩) | (go_at_call 16; refine (inv_u _ _ (by assumption) (by omega) (by omega)).mono ?_; rintro e w' ⟨rfl, rfl⟩) | (go_at_call 22; refine (log_u _ _ (by assumption) (by omega) (by omega)).mono ?_; rintro e w' ⟨rfl, rfl⟩) | (go_at_call 18; refine (add_any _ _ _ (by omega) (by omega) (by omega) (by omega)).mono ?_; rintro e w' ⟨rfl, rfl⟩) | (go_at_call 20; refine (mul_any _ _ _ (by assumption) (by omega) (by omega) (by omega) (by omega)).mono ?_; rintro e w' ⟨rfl, rfl⟩) | (go_at_call 24; refine (exp_any _ _ (by assumption) (by omega) (by omega)).mono ?_; rintro e w' ⟨rfl, rfl⟩))
  go_ret
  exact ⟨rfl, hb1⟩
end Go.Proofs.YtmdenbgambjlcaaDoor
