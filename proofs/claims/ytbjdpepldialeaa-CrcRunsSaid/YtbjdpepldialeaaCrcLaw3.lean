/- The law of runs. -/
import Derived.Test.YtbjdpepldialeaaCrcLaw2
import Derived.Laws.ShiftsVar
import Derived.Laws.ShiftsVarLaws
namespace Go.Proofs.Ytbjdpepldialeaa
open Go.RowKit
set_option linter.unusedVariables false
set_option linter.unusedSimpArgs false

namespace Crc
theorem bit_flip (x k q : Nat) : (x ^^^ 2 ^ k) / 2 ^ q % 2 = if q = k then 1 - x / 2 ^ q % 2 else x / 2 ^ q % 2 := by
  have h : ∀ y : Nat, y / 2 ^ q % 2 = if y.testBit q then 1 else 0 := fun y => by
    rw [Nat.testBit_eq_decide_div_mod_eq]
    have := Nat.mod_lt (y / 2 ^ q) (show 2 > 0 by decide)
    by_cases e : y / 2 ^ q % 2 = 1
    · simp [e]
    · simp [e]; omega
  rw [h, h, Nat.testBit_xor, Nat.testBit_two_pow]
  by_cases e : q = k
  · subst e
    cases x.testBit q <;> simp
  · have : ¬ k = q := fun h => e h.symm
    cases x.testBit q <;> simp [e, this]
def flip (l : List UInt8) (m : Nat) : List UInt8 := l.set (m / 8) (UInt8.ofNat ((l.getD (m / 8) 0).toNat ^^^ 2 ^ (m % 8)))
theorem flip_length (l : List UInt8) (m : Nat) : (flip l m).length = l.length := by simp [flip]
theorem flip_nat (l : List UInt8) (m : Nat) : (UInt8.ofNat ((l.getD (m / 8) 0).toNat ^^^ 2 ^ (m % 8))).toNat = (l.getD (m / 8) 0).toNat ^^^ 2 ^ (m % 8) := by
  have h1 : 2 ^ (m % 8) < 256 := Nat.lt_of_le_of_lt (Nat.pow_le_pow_right (by decide) (show m % 8 ≤ 7 by omega)) (by decide)
  have := xor8_lt (UInt8.toNat_lt (l.getD (m / 8) 0)) h1
  simp only [UInt8.toNat_ofNat']
  omega
theorem flip_bit {l : List UInt8} {m : Nat} (h : m < 8 * l.length) (j : Nat) : bitAt (flip l m) j = if j = m then 1 - bitAt l j else bitAt l j := by
  unfold bitAt flip
  rw [List.getD_eq_getElem?_getD, List.getElem?_set]
  by_cases e : m / 8 = j / 8
  · rw [if_pos e, if_pos (by omega), Option.getD_some, flip_nat, bit_flip, e]
    by_cases e2 : j % 8 = m % 8
    · rw [if_pos e2, if_pos (by omega)]
    · rw [if_neg e2, if_neg (by omega)]
  · rw [if_neg e, if_neg (by omega), ← List.getD_eq_getElem?_getD]
/-- What has been turned behind i bits of the run. -/
structure Run (l : List UInt8) (a i : Nat) (L : List UInt8) (t : Bool) : Prop where
  len : L.length = l.length
  out : ∀ j, j < a ∨ a + i ≤ j → bitAt L j = bitAt l j
  yes : t = true → ∃ j, j < 8 * l.length ∧ bitAt L j ≠ bitAt l j
  no : t = false → L = l
theorem Run.start (l : List UInt8) (a : Nat) : Run l a 0 l false := ⟨rfl, fun _ _ => rfl, (fun h => by cases h), fun _ => rfl⟩
theorem Run.skip {l L : List UInt8} {a i : Nat} {t : Bool} (h : Run l a i L t) : Run l a (i + 1) L t :=
  ⟨h.len, fun j hj => h.out j (by omega), h.yes, h.no⟩
theorem Run.turn {l L : List UInt8} {a i : Nat} {t : Bool} (h : Run l a i L t) (hi : a + i < 8 * l.length) : Run l a (i + 1) (flip L (a + i)) true := by
  have hb := flip_bit (l := L) (m := a + i) (by rw [h.len]; exact hi)
  refine ⟨by rw [flip_length, h.len], fun j hj => ?_, fun _ => ⟨a + i, hi, ?_⟩, (fun h => by cases h)⟩
  · rw [hb, if_neg (by omega), h.out j (by omega)]
  · rw [hb, if_pos rfl, h.out (a + i) (by omega)]
    have := bitAt_lt l (a + i)
    omega
theorem Run.sum {l L : List UInt8} {a i : Nat} {t : Bool} (h : Run l a i L t) (hi : i ≤ 32) : (Crc.sum L = Crc.sum l) ↔ t = false := by
  constructor
  · intro e
    cases t with
    | false => rfl
    | true =>
      obtain ⟨j, hj, hne⟩ := h.yes rfl
      have e2 := fin_inj e
      rw [go_bits, go_bits, h.len] at e2
      exact absurd (run_same (a := a) (by decide) (bitAt_lt L) (bitAt_lt l) (fun i hi => h.out i (.inl hi)) (fun i hi => h.out i (.inr (by omega))) e2 j hj) hne
  · intro e; rw [h.no e]
end Crc

set_option maxRecDepth 100000 in
set_option maxHeartbeats 2000000 in
theorem runs_main (a A : ByteArray) (c : Int) (r : Nat) (w : World) (ha : a.size ≤ 140737488351232) (hA : A.size ≤ 5000) (h0 : 0 < A.size) (hd : a.size ≤ 5000 ∧ A = a ∨ 5000 < a.size ∧ a.extract 0 5000 = A)
    (hc1 : -9223372036854775808 ≤ c) (hc2 : c ≤ 9223372036854775807) (hr : r < 4294967296) (hr0 : ((r : Int) == 0) = false) :
    Calls Try.prog 5 #[.string a, .int .i64 c, .int .u32 (r : Int)] w fun e w' => e = .returned (.bool true) ∧ Below w.heap.size w w' := by
  have p1 := pk_rng c (8 * A.size) (by omega)
  obtain ⟨f, hf⟩ := Int.eq_ofNat_of_zero_le p1.1
  have hfl : f < 8 * A.size := by omega
  have HF := Lib.hid hf
  clear hf p1
  obtain ⟨cap, w1, C, hcv, hrow, hbel, hsz⟩ := MRow.make_run w A
  have t0 : ((A.size : Int) == 0) = false := by rw [beq_eq_false_iff_ne]; omega
  rcases hd with ⟨h, rfl⟩ | ⟨h, hA'⟩
  all_goals
    go_enter Try.func5, Try.ntmps5
    go_wp2_with (first
      | (go_at_call 9; refine (awake_any _).mono ?_; rintro e w' ⟨rfl, rfl⟩)
      | (go_at_call 18; refine (pick_any c _ _ hc1 hc2 (by omega) (by omega)).mono ?_; rintro e w' ⟨rfl, rfl⟩; rw [HF.out]))
    clear hcv
    go_loopw [10, 11] (fun t i wr => ∃ (k : Nat) (L : List UInt8) (q : Bool), k ≤ 32 ∧ i = .int .i64 (k : Int) ∧ t = .bool q ∧ MRow wr w.heap.size C L ∧ Crc.Run A.data.toList f k L q ∧ Below w.heap.size w wr) (fun _ i _ => 32 - (intOf i).toNat)
    case atStart => exact ⟨0, _, false, by omega, rfl, rfl, hrow, Crc.Run.start _ _, hbel⟩
    case round =>
      obtain ⟨k, L, q, hk, rfl, rfl, hM, hR, hB⟩ := hrel
      by_cases hlt : k < 32 ∧ f + k < 8 * A.size
      · obtain ⟨h1, h2⟩ := hlt
        have ha1 : bits .and .u32 ((r : Int) / 2 ^ k) 1 = ((r / 2 ^ k % 2 : Nat) : Int) := by
          have := and32 (r / 2 ^ k) (Nat.lt_of_le_of_lt (Nat.div_le_self _ _) hr)
          rw [← this]; congr 1
        have hlen : L.length = A.size := by rw [hR.len]; exact rfl
        rcases Nat.mod_two_eq_zero_or_one (r / 2 ^ k) with hz | hz
        · rw [hz] at ha1
          clear hz
          go_wp2
          go_roundw
          case rel => exact ⟨k + 1, L, q, by omega, by go_num, rfl, hM, hR.skip, hB⟩
          case measure => simp [intOf]; omega
        · rw [hz] at ha1
          clear hz
          obtain ⟨m, hm⟩ : ∃ m, m = f + k := ⟨_, rfl⟩
          have cz := hM.cell (i := m / 8) (by omega)
          have fz := hM.frozen (i := m / 8) (by omega)
          have b1 : (0 : Int) ≤ ((m / 8 : Nat) : Int) := by omega
          have b2 : ((m / 8 : Nat) : Int) < (A.size : Int) := by omega
          have b4 : (0 : Int) ≤ ((m % 8 : Nat) : Int) := by omega
          have e0 : (f : Int) + (k : Int) = (m : Int) := by omega
          have e1 : IntKind.i64.wrap ((m : Int).tdiv 8) = ((m / 8 : Nat) : Int) := by rw [Int.tdiv_eq_ediv_of_nonneg (by omega)]; exact IntWalk.i64_in _ ⟨by omega, by omega⟩
          have e2 : IntKind.i64.wrap ((m : Int).tmod 8) = ((m % 8 : Nat) : Int) := by rw [Int.tmod_eq_emod_of_nonneg (by omega)]; exact IntWalk.i64_in _ ⟨by omega, by omega⟩
          have HL := Lib.hid hlen
          have HM := Lib.hid hm
          clear hlen hm
          go_wp2
          go_region
          have hv : Hid (bits .xor .u8 ((((L.getD (m / 8) 0).toNat : Nat) : Int)) (2 ^ (m % 8) % 256) = (((UInt8.ofNat ((L.getD (m / 8) 0).toNat ^^^ 2 ^ (m % 8))).toNat : Nat) : Int)) := Lib.hid (by
            have h1 : 2 ^ (m % 8) < 256 := Nat.lt_of_le_of_lt (Nat.pow_le_pow_right (by decide) (show m % 8 ≤ 7 by omega)) (by decide)
            have h2 : ((2 : Int) ^ (m % 8)) % 256 = ((2 ^ (m % 8) : Nat) : Int) := by
              rw [Int.natCast_pow, Int.emod_eq_of_lt]
              · rfl
              · exact Int.pow_nonneg (by decide)
              · exact_mod_cast h1
            rw [h2, Crc.flip_nat, xor8 _ _ (UInt8.toNat_lt _) h1])
          all_goals
            go_wp2
            go_roundw
            case rel => exact ⟨k + 1, Crc.flip L m, true, by omega, by go_num, rfl, (hM.set (by rw [HL.out]; omega) _ _ hv.out).drew, (by rw [HM.out]; exact hR.turn (by have := HM.out; simp; omega)), (hB.setCell (by simp) _).drew⟩
            case measure => simp [intOf]; omega
      · have hcv2 := hM.str A.size cap (by rw [hR.len]; exact rfl)
        have hsz2 : (lineOf L).size ≤ 5000 := by rw [lineOf_size, hR.len]; exact hA
        have hq : Hid (((((Crc.sum (lineOf L).data.toList : Nat) : Int) == ((Crc.sum A.data.toList : Nat) : Int)) == !q) = true) := Lib.hid (by
          rw [list_lineOf]
          have hs := hR.sum hk
          cases q with
          | false => rw [hs.2 rfl]; simp
          | true =>
            have : ((Crc.sum L : Nat) : Int) ≠ ((Crc.sum A.data.toList : Nat) : Int) := fun e => by
              have := hs.1 (by omega)
              cases this
            simpa using this)
        generalize lineOf L = SL at *
        by_cases h32 : k < 32
        · have h8 : ¬ (f + k < 8 * A.size) := fun e => hlt ⟨h32, e⟩
          clear hlt hM hR
          go_wp2_with (go_at_call 10; refine (sum_any _ _ (by unfold maxLen; omega)).mono ?_; rintro e w' ⟨rfl, rfl⟩)
          go_ret
          exact ⟨by rw [← hq.out]; rfl, hB⟩
        · clear hlt hM hR
          go_wp2_with (go_at_call 10; refine (sum_any _ _ (by unfold maxLen; omega)).mono ?_; rintro e w' ⟨rfl, rfl⟩)
          go_ret
          exact ⟨by rw [← hq.out]; rfl, hB⟩
theorem runs_short (a : ByteArray) (c : Int) (r : Nat) (w : World) (h : a.size = 0) :
    Calls Try.prog 5 #[.string a, .int .i64 c, .int .u32 (r : Int)] w fun e w' => e = .returned (.bool true) ∧ w = w' := by
  have t0 : ((a.size : Int) == 0) = true := by rw [h]; rfl
  have h' : a.size ≤ 5000 := by omega
  clear h
  go_enter Try.func5, Try.ntmps5
  go_wp2_with (go_at_call 9; refine (awake_any _).mono ?_; rintro e w' ⟨rfl, rfl⟩)
  go_ret
  exact ⟨rfl, rfl⟩
theorem runs_nought (a A : ByteArray) (c : Int) (w : World) (hA : 0 < A.size) (hd : a.size ≤ 5000 ∧ A = a ∨ 5000 < a.size ∧ a.extract 0 5000 = A) :
    Calls Try.prog 5 #[.string a, .int .i64 c, .int .u32 0] w fun e w' => e = .returned (.bool true) ∧ w = w' := by
  have t0 : ((A.size : Int) == 0) = false := by rw [beq_eq_false_iff_ne]; omega
  rcases hd with ⟨h, rfl⟩ | ⟨h, hA'⟩
  all_goals
    go_enter Try.func5, Try.ntmps5
    go_wp2_with (go_at_call 9; refine (awake_any _).mono ?_; rintro e w' ⟨rfl, rfl⟩)
    go_ret
    exact ⟨rfl, rfl⟩
theorem runs_walk (a : ByteArray) (c : Int) (r : Nat) (w : World) (ha : a.size ≤ 140737488351232) (hc1 : -9223372036854775808 ≤ c) (hc2 : c ≤ 9223372036854775807) (hr : r < 4294967296) :
    Calls Try.prog 5 #[.string a, .int .i64 c, .int .u32 (r : Int)] w fun e w' => e = .returned (.bool true) ∧ Below w.heap.size w w' := by
  by_cases h0 : a.size = 0
  · exact (runs_short a c r w h0).mono fun e w' ⟨he, hw⟩ => ⟨he, by rw [← hw]; exact Below.refl _ _⟩
  obtain ⟨A, hA, hA0, hd⟩ : ∃ A : ByteArray, A.size ≤ 5000 ∧ 0 < A.size ∧ (a.size ≤ 5000 ∧ A = a ∨ 5000 < a.size ∧ a.extract 0 5000 = A) := by
    by_cases h : a.size ≤ 5000
    · exact ⟨a, h, by omega, .inl ⟨h, rfl⟩⟩
    · exact ⟨a.extract 0 5000, by simp; omega, by simp; omega, .inr ⟨by omega, rfl⟩⟩
  by_cases hz : r = 0
  · subst hz
    exact (runs_nought a A c w hA0 hd).mono fun e w' ⟨he, hw⟩ => ⟨he, by rw [← hw]; exact Below.refl _ _⟩
  · exact runs_main a A c r w ha hA hA0 hd hc1 hc2 hr (by rw [beq_eq_false_iff_ne]; omega)
end Go.Proofs.Ytbjdpepldialeaa
