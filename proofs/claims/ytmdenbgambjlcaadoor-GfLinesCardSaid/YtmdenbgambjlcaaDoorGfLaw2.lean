/- The law of lines: its walk. -/
import Derived.Test.YtmdenbgambjlcaaDoorGfLaw1
namespace Go.Proofs.YtmdenbgambjlcaaDoor
open Go.RowKit
set_option linter.unusedVariables false
set_option linter.unusedSimpArgs false

namespace Gf
theorem mix_getD {y x : List UInt8} {c i : Nat} (h : i < y.length) : ((mix y c x).getD i 0).toNat = if i < x.length then (y.getD i 0).toNat ^^^ gm c (x.getD i 0).toNat else (y.getD i 0).toNat := by
  rw [List.getD_eq_getElem?_getD, List.getElem?_eq_getElem (by rw [mix_length]; exact h), mix_get, Option.getD_some, mixAt_toNat]
theorem mix_ext {y z : List UInt8} (hl : y.length = z.length) (h : ∀ i, i < y.length → (y.getD i 0).toNat = (z.getD i 0).toNat) : y = z := by
  apply List.ext_getElem hl
  intro i h1 h2
  have := h i h1
  rw [List.getD_eq_getElem?_getD, List.getD_eq_getElem?_getD, List.getElem?_eq_getElem h1, List.getElem?_eq_getElem h2] at this
  exact UInt8.toNat_inj.1 this
theorem mix_twice (y x : List UInt8) (c : Nat) : mix (mix y c x) c x = y := by
  refine mix_ext (by rw [mix_length, mix_length]) fun i hi => ?_
  rw [mix_length, mix_length] at hi
  rw [mix_getD (by rw [mix_length]; exact hi), mix_getD hi]
  split
  · rw [Nat.xor_assoc, Nat.xor_self, Nat.xor_zero]
  · rfl
theorem mix_swap (y x z : List UInt8) (c d : Nat) : mix (mix y c x) d z = mix (mix y d z) c x := by
  refine mix_ext (by simp only [mix_length]) fun i hi => ?_
  rw [mix_length, mix_length] at hi
  rw [mix_getD (by rw [mix_length]; exact hi), mix_getD hi, mix_getD (by rw [mix_length]; exact hi), mix_getD hi]
  split <;> split
  · rw [Nat.xor_assoc, Nat.xor_assoc, Nat.xor_comm (gm c _)]
  · rfl
  · rfl
  · rfl
theorem mix_nought (y x : List UInt8) : mix y 0 x = y := by
  refine mix_ext (by rw [mix_length]) fun i hi => ?_
  rw [mix_length] at hi
  rw [mix_getD hi, gm_zero_left, Nat.xor_zero, ite_self]
theorem mix_sum (y x : List UInt8) {c d : Nat} (hc : c < 256) (hd : d < 256) : mix (mix y c x) d x = mix y (c ^^^ d) x := by
  refine mix_ext (by simp only [mix_length]) fun i hi => ?_
  rw [mix_length, mix_length] at hi
  rw [mix_getD (by rw [mix_length]; exact hi), mix_getD hi, mix_getD hi, gm_xor_left (UInt8.toNat_lt _) hc hd]
  split
  · rw [Nat.xor_assoc]
  · rfl
end Gf
theorem mulAdd_list (y x : ByteArray) (c : Nat) : (mulAdd y c x).data.toList = Gf.mix y.data.toList c x.data.toList := rfl
theorem mulAdd_size (y x : ByteArray) (c : Nat) : (mulAdd y c x).size = y.size := by
  show (lineOf _).data.size = _
  simp [lineOf, Gf.mix_length]
theorem lineOf_list (y : ByteArray) : lineOf y.data.toList = y := rfl
theorem mulAdd_twice (y x : ByteArray) (c : Nat) : mulAdd (mulAdd y c x) c x = y := by
  rw [mulAdd, mulAdd_list, Gf.mix_twice]; rfl
theorem mulAdd_swap (y x z : ByteArray) (c d : Nat) : mulAdd (mulAdd y c x) d z = mulAdd (mulAdd y d z) c x := by
  rw [mulAdd, mulAdd_list, mulAdd, mulAdd_list, Gf.mix_swap]
theorem mulAdd_nought (y x : ByteArray) : mulAdd y 0 x = y := by
  rw [mulAdd, Gf.mix_nought]; rfl
theorem mulAdd_sum (y x : ByteArray) {c d : Nat} (hc : c < 256) (hd : d < 256) : mulAdd (mulAdd y c x) d x = mulAdd y (c ^^^ d) x := by
  rw [mulAdd, mulAdd_list, Gf.mix_sum _ _ hc hd]; rfl

theorem muladd_c {w0 : World} (y x : ByteArray) (c : Int) (w : World) (h : Cls w0 w) (h1 : 0 ≤ c) (h2 : c < 256) (hy : y.size ≤ 140737488351232) (hx : x.size ≤ 140737488351232) :
    Calls Tryd.prog 26 #[.string y, .int .u8 c, .string x] w fun e w' => e = .returned (.string (mulAdd y c.toNat x)) ∧ Cls w0 w' :=
  (muladd_any y x c w h.tabs h1 h2 (by unfold maxLen; omega) (by unfold maxLen; omega)).mono fun e w' ⟨he, hb⟩ => ⟨he, h.below.trans (hb.mono h.below.size), h.tabs.below hb h.tabs.two⟩
theorem rmuladd_c {w0 : World} (y x : ByteArray) (c : Int) (w : World) (h : Cls w0 w) (h1 : 0 ≤ c) (h2 : c < 256) (hy : y.size ≤ 140737488351232) (hx : x.size ≤ 140737488351232) :
    Calls Tryd.prog 27 #[.string y, .int .u8 c, .string x] w fun e w' => e = .returned (.string (mulAdd y c.toNat x)) ∧ Cls w0 w' :=
  (rmuladd_any y x c w h1 h2 hy hx).mono fun e w' ⟨he, hb⟩ => ⟨he, h.below.trans (hb.mono h.below.size), h.tabs.below hb h.tabs.two⟩

set_option maxRecDepth 100000 in
set_option maxHeartbeats 4000000 in
theorem lines_walk (y : ByteArray) (c : Nat) (x : ByteArray) (d : Nat) (z : ByteArray) (w : World) (ht : Tabs w) (hc : c < 256) (hd : d < 256) (hy : y.size ≤ 140737488351232) (hx : x.size ≤ 140737488351232) (hz : z.size ≤ 140737488351232) :
    Calls Tryd.prog 8 #[.string y, .int .u8 (c : Int), .string x, .int .u8 (d : Int), .string z] w fun e w' => e = .returned (.bool true) ∧ Below w.heap.size w w' := by
  have s1 := mulAdd_size y x c
  have s2 := mulAdd_size y z d
  have e1 := mulAdd_twice y x c
  have e2 := mulAdd_swap y x z c d
  have e3 := mulAdd_nought y x
  have e4 := mulAdd_sum y x hc hd
  have b1 := Gf.xor_lt hc hd
  go_enter Tryd.func8, Tryd.ntmps8
  go_wp2_with (first
    | (go_at_call 13; refine (awake_any _ ht).mono ?_; rintro e w1 ⟨rfl, hb1⟩; have hcls : Cls w w1 := ⟨hb1, ht.below hb1 ht.two⟩)
    | (go_at_call 26; refine (muladd_c _ _ _ _ (by assumption) (by omega) (by omega) (by omega) (by omega)).mono ?_; rintro e w' ⟨rfl, hcls⟩)
    | (go_at_call 27; refine (rmuladd_c _ _ _ _ (by assumption) (by omega) (by omega) (by omega) (by omega)).mono ?_; rintro e w' ⟨rfl, hcls⟩)
    | (go_at_call 18; refine (add_any _ _ _ (by omega) (by omega) (by omega) (by omega)).mono ?_; rintro e w' ⟨rfl, rfl⟩))
  trace_state
  go_ret
  exact ⟨rfl, hcls.below⟩
end Go.Proofs.YtmdenbgambjlcaaDoor
