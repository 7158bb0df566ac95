/- member: raw numbers as texts; chapter 8's example. -/
import Derived.Test.YtofhmdbilhdblaaMemCrash
namespace Go.Proofs.Ytofhmdbilhdblaa
open Go.RowKit
set_option linter.unusedVariables false
set_option linter.unusedSimpArgs false

theorem pick_any (c : Int) (n : Nat) (hc : In64 c) (h1 : 1 ≤ n) (h2 : n ≤ 4611686018427387904) (w : World) :
    Calls Try.prog 9 #[.int .i64 c, .int .i64 (n : Int)] w fun e w' => e = .returned (.int .i64 ((pickC c % n : Nat) : Int)) ∧ w = w' := by
  obtain ⟨a1, a2⟩ := in64_iff.1 hc
  obtain ⟨p, hp⟩ : ∃ p, pickC c = p := ⟨_, rfl⟩
  rw [hp]
  have hmod2 : ((p : Int)) % (n : Int) = ((p % n : Nat) : Int) := (Int.natCast_emod p n).symm
  have hmod : ((p : Int)).tmod (n : Int) = ((p % n : Nat) : Int) := by rw [Int.tmod_eq_emod_of_nonneg (by omega)]; exact hmod2
  have hn0 : ¬ (n : Int) = 0 := by omega
  have hn1 : ¬ n = 0 := by omega
  generalize p % n = r at *
  by_cases hneg : c < 0
  · have hcq : c + 1 = -(p : Int) := by unfold pickC at hp; rw [if_pos hneg] at hp; omega
    have hw1 : IntKind.i64.wrap (c + 1) = -(p : Int) := wrap_add _ _ hcq (by omega) (by omega)
    have hw2 : IntKind.i64.wrap (p : Int) = (p : Int) := wrap_in (by omega) (by omega)
    clear hcq hp a1 a2 hc h1 h2
    go_enter Try.func9, Try.ntmps9
    go_wp2
    go_ret
    exact ⟨rfl, rfl⟩
  · have hcq : c = (p : Int) := by unfold pickC at hp; rw [if_neg hneg] at hp; omega
    clear hp a1 a2 hc h1 h2
    subst hcq
    go_enter Try.func9, Try.ntmps9
    go_wp2
    go_ret
    exact ⟨rfl, rfl⟩
def fil (k : Nat) (x : UInt8) : List UInt8 := (List.range 128).map fun j => if j < k then x else 0
theorem fil_len (k : Nat) (x : UInt8) : (fil k x).length = 128 := by simp [fil]
theorem fil_zero (x : UInt8) : fil 0 x = List.replicate 128 0 := by
  unfold fil
  apply List.ext_getElem?
  intro j
  rw [List.getElem?_replicate]
  by_cases h : j < 128
  · rw [if_pos h, List.getElem?_map, List.getElem?_range h]; simp
  · rw [if_neg h, List.getElem?_eq_none (by simp; omega)]
theorem fil_set (k : Nat) (x : UInt8) (h : k < 128) : (fil k x).set k x = fil (k + 1) x := by
  unfold fil
  apply List.ext_getElem?
  intro j
  rw [List.getElem?_set]
  by_cases e : k = j
  · subst e
    rw [if_pos rfl, if_pos (by simp; omega)]
    simp [h]
  · rw [if_neg e]
    by_cases hj : j < 128
    · simp only [List.getElem?_map, List.getElem?_range hj, Option.map_some]
      congr 1
      by_cases h3 : j < k
      · rw [if_pos h3, if_pos (by omega)]
      · rw [if_neg h3, if_neg (by omega)]
    · rw [List.getElem?_eq_none (by simp; omega), List.getElem?_eq_none (by simp; omega)]
/-- A raw number as a text. -/
def sec (n : Int) : ByteArray := lineOf (fil 128 (UInt8.ofNat (pickC n % 256)))
theorem sec_size (n : Int) : (sec n).size = 128 := by unfold sec; rw [lineOf_size, fil_len]
theorem sec_zero : sec 0 = zero128 := by
  unfold sec zero128 fil
  congr 1
def GivesS (w : World) (s : ByteArray) (e : Ending) (w' : World) : Prop := e = .returned (.string s) ∧ Below w.heap.size w w'
set_option maxRecDepth 100000 in
theorem sector_any (n : Int) (hn : In64 n) (w : World) : Calls Try.prog 11 #[.int .i64 n] w (GivesS w (sec n)) := by
  have cp := fun W => pick_any n 256 hn (by omega) (by omega) W
  obtain ⟨w1, hmk, hr, hb, hsz⟩ := BRow.make_run w 128 (by omega)
  obtain ⟨x, hx⟩ : ∃ x, UInt8.ofNat (pickC n % 256) = x := ⟨_, rfl⟩
  have hp : pickC n % 256 = x.toNat := by rw [← hx]; simp
  have hsec : Hid (sec n = lineOf (fil 128 x)) := Lib.hid (by unfold sec; rw [hx])
  rw [hp] at cp
  have hu : IntKind.u8.wrap ((x.toNat : Nat) : Int) = ((x.toNat : Nat) : Int) := by
    have := x.toNat_lt
    rw [IntKind.wrap_u8]; omega
  rw [← fil_zero x] at hr
  obtain ⟨g, hg⟩ : ∃ g, w.heap.size = g := ⟨_, rfl⟩
  rw [hg] at hmk hr
  have hgl := hr.lt
  replace hmk : (Instr.makeSlice 81 (.int .i64 128) (.int .i64 128)).run Try.prog w = .ok (.slice (some ⟨g, 0, none⟩) 128 128) w1 := hmk
  clear hx hp hn hsz
  go_enter Try.func11, Try.ntmps11
  go_wp2_with (fail)
  go_loopw [4] (fun t wr => ∃ k : Nat, k ≤ 128 ∧ t = .int .i64 (k : Int) ∧ Below w.heap.size w wr ∧ BRow wr g (fil k x)) (fun t _ => 128 - (intOf t).toNat)
  case atStart => exact ⟨0, by omega, rfl, hb, hr⟩
  case round =>
    obtain ⟨k, hk, rfl, hB, hR⟩ := hrel
    by_cases hlt : k < 128
    · have c0 := hR.cell (i := k) (by rw [fil_len]; exact hlt)
      have f0 := hR.frozen k
      have hn1 := hR.set (i := k) (by rw [fil_len]; exact hlt) x _ rfl
      rw [fil_set k x hlt] at hn1
      have k1 : (k : Int) < 128 := by omega
      have k2 : (0 : Int) ≤ (k : Int) := by omega
      have hB2 := hB.setCell (p := ⟨g, k, none⟩) (by rw [hg]; exact Nat.le_refl _) (.int .u8 ((x.toNat : Nat) : Int))
      go_wp2_with (fail)
      refine (cp _).mono ?_
      rintro e w' ⟨rfl, rfl⟩
      go_wp2_with (fail)
      go_roundw
      case rel => exact ⟨k + 1, by omega, by go_num, hB2, hn1⟩
      case measure => simp [intOf]; omega
    · obtain rfl : k = 128 := by omega
      have hst := hR.str 128 128 (by rw [fil_len])
      go_wp2_with (fail)
      go_ret
      exact ⟨by rw [hsec.out]; rfl, hB⟩
end Go.Proofs.Ytofhmdbilhdblaa

