/- mat: what the laws lean on: Same, pick. -/
import Derived.Test.YtcmnojflllcdfaaDoorMatLin
import Derived.BigQuiet
import Derived.Deep.QuietTactic
namespace Go.Proofs.YtcmnojflllcdfaaDoor
open Go.RowKit
set_option linter.unusedVariables false
set_option linter.unusedSimpArgs false

/-- Which of n things a raw number speaks of. -/
def pk (c n : Int) : Int := (if c < 0 then -(c + 1) else c) % n
theorem pk_rng (c n : Int) (h : 1 ≤ n) : 0 ≤ pk c n ∧ pk c n < n := by
  unfold pk; exact ⟨Int.emod_nonneg _ (by omega), Int.emod_lt_of_pos _ (by omega)⟩
theorem ne_toList {a b : ByteArray} (h : ¬ a = b) : (!a.toList == b.toList) = true := by
  rw [Bool.not_eq_true', beq_eq_false_iff_ne]
  intro e
  exact h (by rw [Lib.toList_data, Lib.toList_data] at e; exact Go.WideShapes.bytes_inj e)
def sameL (a b : List ByteArray) : Bool := decide (a = b)
theorem sameL_self (a : List ByteArray) : sameL a a = true := by simp [sameL]
/-- Nothing old has turned. -/
def Says (w : World) (v : Value) (e : Ending) (w' : World) : Prop := e = .returned v ∧ Below w.heap.size w w'
set_option maxRecDepth 100000 in
set_option maxHeartbeats 1000000 in
theorem same_any (va vb : Value) (a b : List ByteArray) (w : World) (hA : Reads w va (tx a)) (hB : Reads w vb (tx b)) (fa : Fits a) (fb : Fits b) :
    Calls Tryd.prog 18 #[va, vb] w (Says w (.bool (sameL a b))) := by
  have fan := fa.n
  have fbn := fb.n
  by_cases h1 : a.length = b.length
  · have t1 : (((a.length : Nat) : Int) != ((b.length : Nat) : Int)) = false := by rw [h1]; exact bne_self_eq_false _
    rcases hA.srow with ⟨rfl, rfl⟩ | ⟨ba, oa, ca, rfl, hSa⟩
    · obtain rfl : b = [] := List.eq_nil_of_length_eq_zero (by simpa using h1.symm)
      rcases hB.srow with ⟨rfl, _⟩ | ⟨bb, ob, cb, rfl, hSb⟩
      all_goals
        clear hA hB h1 fan fbn t1
        go_enter Tryd.func18, Tryd.ntmps18
        go_wp2
        go_loopw [5] (fun i wr => i = .int .i64 0 ∧ w = wr) (fun _ _ => 0)
        case atStart => exact ⟨rfl, rfl⟩
        case round =>
          obtain ⟨rfl, rfl⟩ := hrel
          go_wp2
          go_ret
          exact ⟨rfl, Below.refl _ _⟩
    · rcases hB.srow with ⟨rfl, rfl⟩ | ⟨bb, ob, cb, rfl, hSb⟩
      · obtain rfl : a = [] := List.eq_nil_of_length_eq_zero (by simpa using h1)
        clear hA hB h1 fan fbn t1
        go_enter Tryd.func18, Tryd.ntmps18
        go_wp2
        go_loopw [5] (fun i wr => i = .int .i64 0 ∧ w = wr) (fun _ _ => 0)
        case atStart => exact ⟨rfl, rfl⟩
        case round =>
          obtain ⟨rfl, rfl⟩ := hrel
          go_wp2
          go_ret
          exact ⟨rfl, Below.refl _ _⟩
      · have h1' := Lib.hid h1
        clear h1
        go_enter Tryd.func18, Tryd.ntmps18
        go_wp2
        go_loopw [5] (fun i wr => ∃ k : Nat, k ≤ a.length ∧ i = .int .i64 (k : Int) ∧ Below w.heap.size w wr ∧ Hid (∀ j, j < k → a.getD j ⟨#[]⟩ = b.getD j ⟨#[]⟩)) (fun i _ => a.length - (intOf i).toNat)
        case atStart => exact ⟨0, by omega, rfl, Below.refl _ _, Lib.hid (fun j hj => by omega)⟩
        case round =>
          obtain ⟨k, hk, rfl, hbel, hj⟩ := hrel
          by_cases hlt : k < a.length
          · have hca := (hSa.below hbel).cell k hlt
            have hcb := (hSb.below hbel).cell k (by have := h1'.out; omega)
            have b1 : (k : Int) < (a.length : Int) := by omega
            have b2 : (k : Int) < (b.length : Int) := by have := h1'.out; omega
            by_cases he : a.getD k ⟨#[]⟩ = b.getD k ⟨#[]⟩
            · have hj' : Hid (∀ j, j < k + 1 → a.getD j ⟨#[]⟩ = b.getD j ⟨#[]⟩) := Lib.hid (fun j hjk => by
                by_cases e : j = k
                · subst e; exact he
                · exact hj.out j (by omega))
              rw [← he] at hcb
              generalize a.getD k ⟨#[]⟩ = rk at *
              clear he
              go_wp2
              go_quiet (fail)
              go_wp2
              go_roundw
              case rel => exact ⟨k + 1, by omega, by go_num, belowN hbel _, hj'⟩
              case measure => simp [intOf]; omega
            · have hz : Hid (sameL a b = false) := Lib.hid (by
                simp only [sameL, decide_eq_false_iff_not]
                intro e; exact he (by rw [e]))
              generalize a.getD k ⟨#[]⟩ = rk at *
              generalize b.getD k ⟨#[]⟩ = qk at *
              have tq : (!rk.toList == qk.toList) = true := ne_toList he
              go_wp2
              go_quiet (fail)
              go_wp2
              go_ret
              exact ⟨by rw [hz.out]; rfl, belowN hbel _⟩
          · have hz : Hid (sameL a b = true) := Lib.hid (by
              simp only [sameL, decide_eq_true_eq]
              refine List.ext_getElem h1'.out fun i h2 h3 => ?_
              have := hj.out i (by omega)
              rwa [List.getD_eq_getElem?_getD, List.getD_eq_getElem?_getD, List.getElem?_eq_getElem h2, List.getElem?_eq_getElem h3] at this)
            have e : k = a.length := by omega
            subst e
            go_wp2
            go_ret
            exact ⟨by rw [hz.out]; rfl, hbel⟩
  · have t1 : (((a.length : Nat) : Int) != ((b.length : Nat) : Int)) = true := by rw [bne_iff_ne]; omega
    have la := fun W => hA.len_run (P := Tryd.prog) Tryd.underlying22 3 W
    have lb := fun W => hB.len_run (P := Tryd.prog) Tryd.underlying22 3 W
    rw [List.length_map] at la lb
    have hz : Hid (sameL a b = false) := Lib.hid (by
      simp only [sameL, decide_eq_false_iff_not]
      intro e; exact h1 (by rw [e]))
    clear h1
    go_enter Tryd.func18, Tryd.ntmps18
    go_wp2
    go_ret
    exact ⟨by rw [hz.out]; rfl, Below.refl _ _⟩
end Go.Proofs.YtcmnojflllcdfaaDoor
