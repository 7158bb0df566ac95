/- mat: one row of a product. -/
import Derived.Test.YtcmnojflllcdfaaDoorMatBase
namespace Go.Proofs.YtcmnojflllcdfaaDoor
open Go.RowKit
set_option linter.unusedVariables false
set_option linter.unusedSimpArgs false

theorem mulAdd_size (y x : ByteArray) (c : Nat) : (mulAdd y c x).size = y.size := by
  show (mulAdd y c x).data.size = _
  simp [mulAdd, lineOf, Gf.mix]
def comb (f : ByteArray) (l : List ByteArray) : Nat → ByteArray
  | 0 => zrow (l.getD 0 ⟨#[]⟩).size
  | k + 1 => mulAdd (comb f l k) (f.data[k]?.getD 0).toNat (l.getD k ⟨#[]⟩)
theorem comb_size (f : ByteArray) (l : List ByteArray) : ∀ k, (comb f l k).size = (l.getD 0 ⟨#[]⟩).size
  | 0 => by simp [comb, zrow_size]
  | k + 1 => by rw [comb, mulAdd_size, comb_size f l k]
set_option maxRecDepth 100000 in
set_option maxHeartbeats 1000000 in
theorem combine_any (f : ByteArray) (b off cap : Nat) (l : List ByteArray) (w : World) (ht : Tabs w) (hS : SRow w b off l) (hl : 1 ≤ l.length) (hL : l.length ≤ 1000) (hf : l.length ≤ f.size) (hF : f.size ≤ 1000000) (hm : ∀ i, i < l.length → (l.getD i ⟨#[]⟩).size ≤ 1000000) :
    Calls Tryd.prog 45 #[.string f, .slice (some ⟨b, off, none⟩) l.length cap] w fun e w' => e = .returned (.string (comb f l l.length)) ∧ Below w.heap.size w w' := by
  have h0 := hS.cell 0 (by omega)
  have hm0 := hm 0 (by omega)
  rw [Nat.add_zero] at h0
  have hC0 : comb f l 0 = zrow (l.getD 0 ⟨#[]⟩).size := rfl
  obtain ⟨r0, hr0⟩ : ∃ r, l.getD 0 ⟨#[]⟩ = r := ⟨_, rfl⟩
  rw [hr0] at h0 hm0 hC0
  have hsz : ∀ k, (comb f l k).size ≤ 1000000 := fun k => by rw [comb_size, hr0]; exact hm0
  go_enter Tryd.func45, Tryd.ntmps45
  go_wp2_with (go_at_call 55; refine (zeros_any _ _ (by omega)).mono ?_; rintro e w1 ⟨rfl, hb⟩)
  go_loopw [5, 6, 7, 15] (fun s _ _ i wr => ∃ k : Nat, k ≤ l.length ∧ i = .int .i64 (k : Int) ∧ s = .string (comb f l k) ∧ Below w.heap.size w wr) (fun _ _ _ i _ => l.length - (intOf i).toNat)
  case atStart => exact ⟨0, by omega, rfl, by rw [hC0], hb⟩
  case round =>
    obtain ⟨k, hk, rfl, rfl, hbk⟩ := hrel
    by_cases hlt : k < l.length
    · have hc := (hS.below hbk).cell k hlt
      have hmk := hm k hlt
      have hsk := hsz k
      have hCk : comb f l (k + 1) = mulAdd (comb f l k) (f.data[k]?.getD 0).toNat (l.getD k ⟨#[]⟩) := rfl
      generalize l.getD k ⟨#[]⟩ = rk at *
      have htk : Tabs _ := ht.below hbk ht.two
      have b1 : (k : Int) < (l.length : Int) := by omega
      have b2 : (k : Int) < (f.size : Int) := by omega
      have hkf : k < f.size := by omega
      have c1 := UInt8.toNat_lt f[k]
      have hg : Hid (f.data[k]?.getD 0 = f[k]) := Lib.hid (by rw [Array.getElem?_eq_getElem (by simpa using hkf)]; rfl)
      go_wp2_with (go_at_call 31; refine (muladd_any _ _ _ _ htk (by omega) (by omega) (by unfold maxLen; omega) (by unfold maxLen; omega)).mono ?_; rintro e w2 ⟨rfl, hb2⟩)
      go_roundw
      case rel => exact ⟨k + 1, by omega, by go_num, by rw [hCk, hg.out], hbk.trans (hb2.mono hbk.size)⟩
      case measure => simp [intOf]; omega
    · have e : k = l.length := by omega
      subst e
      go_wp2
      go_ret
      exact ⟨rfl, hbk⟩
/-- A right matrix: 1 to 16 rows of one length, 1 to 4096. -/
def mR (l : List ByteArray) : Bool := decide (1 ≤ l.length ∧ l.length ≤ 16 ∧ 1 ≤ (l.getD 0 ⟨#[]⟩).size ∧ (l.getD 0 ⟨#[]⟩).size ≤ 4096) && l.all (fun r => r.size == (l.getD 0 ⟨#[]⟩).size)
set_option maxRecDepth 100000 in
set_option maxHeartbeats 1000000 in
theorem right_nil (w : World) :
    Calls Tryd.prog 44 #[.slice none 0 0] w fun e w' => e = .returned (.bool false) ∧ w = w' := by
  go_enter Tryd.func44, Tryd.ntmps44
  go_wp2
  go_ret
  exact ⟨rfl, rfl⟩
set_option maxRecDepth 100000 in
set_option maxHeartbeats 1000000 in
theorem right_any (b off cap : Nat) (l : List ByteArray) (w : World) (hS : SRow w b off l) (hL : l.length ≤ 140737488355328) (hm : ∀ i, i < l.length → (l.getD i ⟨#[]⟩).size ≤ 140737488355328) :
    Calls Tryd.prog 44 #[.slice (some ⟨b, off, none⟩) l.length cap] w fun e w' => e = .returned (.bool (mR l)) ∧ w = w' := by
  by_cases h1 : 1 ≤ l.length
  · by_cases h2 : l.length ≤ 16
    · have t1 : decide ((l.length : Int) < 1) = false := by simp; omega
      have t2 : decide (16 < (l.length : Int)) = false := by simp; omega
      have h0 := hS.cell 0 (by omega)
      have hm0 := hm 0 (by omega)
      rw [Nat.add_zero] at h0
      obtain ⟨r0, hr0⟩ : ∃ r, l.getD 0 ⟨#[]⟩ = r := ⟨_, rfl⟩
      rw [hr0] at h0 hm0
      go_enter Tryd.func44, Tryd.ntmps44
      go_wp2
      go_loopw [5, 20] (fun _ i wr => ∃ k : Nat, k ≤ l.length ∧ i = .int .i64 (k : Int) ∧ w = wr ∧ ∀ j, j < k → (l.getD j ⟨#[]⟩).size = r0.size) (fun _ i _ => l.length - (intOf i).toNat)
      case atStart => exact ⟨0, by omega, rfl, rfl, fun j hj => by omega⟩
      case round =>
        obtain ⟨k, hk, rfl, rfl, hj⟩ := hrel
        by_cases hlt : k < l.length
        · have hc := hS.cell k hlt
          have hmk := hm k hlt
          have b1 : (k : Int) < (l.length : Int) := by omega
          by_cases he : (l.getD k ⟨#[]⟩).size = r0.size
          · obtain ⟨rk, hrk⟩ : ∃ r, l.getD k ⟨#[]⟩ = r := ⟨_, rfl⟩
            have hrk' := Lib.hid hrk
            have hj' : Hid (∀ j, j < k + 1 → (l.getD j ⟨#[]⟩).size = r0.size) := Lib.hid (fun j hjk => by
              by_cases e : j = k
              · subst e; exact he
              · exact hj j (by omega))
            rw [hrk] at hc hmk he
            have e3 : (((rk.size : Nat) : Int) != ((r0.size : Nat) : Int)) = false := by simp [he]
            clear hj hrk hr0
            go_wp2
            go_roundw
            case rel => exact ⟨k + 1, by omega, by go_num, (by first | rfl | trivial), hj'.out⟩
            case measure => simp [intOf]; omega
          · have hz : Hid (mR l = false) := Lib.hid (by
              unfold mR; rw [Bool.and_eq_false_iff]; right
              rw [List.all_eq_false]
              refine ⟨l.getD k ⟨#[]⟩, ?_, ?_⟩
              · rw [List.getD_eq_getElem?_getD, List.getElem?_eq_getElem hlt]; exact List.getElem_mem hlt
              · rw [hr0]; simpa using he)
            obtain ⟨rk, hrk⟩ : ∃ r, l.getD k ⟨#[]⟩ = r := ⟨_, rfl⟩
            rw [hrk] at hc hmk he
            have e3 : (((rk.size : Nat) : Int) != ((r0.size : Nat) : Int)) = true := by simp; omega
            clear hj hrk hr0
            go_wp2
            go_ret
            exact ⟨by rw [hz.out]; rfl, rfl⟩
        · have e : k = l.length := by omega
          subst e
          have hz : Hid (mR l = (decide ((1 : Int) ≤ (r0.size : Int)) && decide ((r0.size : Int) ≤ 4096))) := Lib.hid (by
            have ha : l.all (fun r => r.size == (l.getD 0 ⟨#[]⟩).size) = true := by
              rw [List.all_eq_true]; intro r hr
              obtain ⟨j, hj1, rfl⟩ := List.getElem_of_mem hr
              have := hj j hj1
              rw [List.getD_eq_getElem?_getD, List.getElem?_eq_getElem hj1] at this
              rw [hr0]; simpa using this
            unfold mR; rw [ha, Bool.and_true, hr0, Bool.eq_iff_iff]; simp only [Bool.and_eq_true, decide_eq_true_eq]; omega)
          clear hj hr0
          cases s1 : decide ((1 : Int) ≤ (r0.size : Int))
          all_goals
            cases s2 : decide ((r0.size : Int) ≤ 4096)
            all_goals
              go_wp2
              go_ret
              exact ⟨by rw [hz.out, s1, s2]; rfl, rfl⟩
    · have hz : Hid (mR l = false) := Lib.hid (by unfold mR; rw [decide_eq_false (by omega)]; rfl)
      have t1 : decide ((l.length : Int) < 1) = false := by simp; omega
      have t2 : decide (16 < (l.length : Int)) = true := by simp; omega
      go_enter Tryd.func44, Tryd.ntmps44
      go_wp2
      go_ret
      exact ⟨by rw [hz.out]; rfl, rfl⟩
  · have hz : Hid (mR l = false) := Lib.hid (by unfold mR; rw [decide_eq_false (by omega)]; rfl)
    have t1 : decide ((l.length : Int) < 1) = true := by simp; omega
    go_enter Tryd.func44, Tryd.ntmps44
    go_wp2
    go_ret
    exact ⟨by rw [hz.out]; rfl, rfl⟩
end Go.Proofs.YtcmnojflllcdfaaDoor
