/- mat: products. -/
import Derived.Test.YtcmnojflllcdfaaDoorMatComb
import Derived.Test.YtcmnojflllcdfaaDoorSl
namespace Go.Proofs.YtcmnojflllcdfaaDoor
open Go.RowKit
set_option linter.unusedVariables false
set_option linter.unusedSimpArgs false

theorem Tryd.infoS : (Tryd.prog.info? 9).map (fun i => (i.zero, i.size, i.bytes)) = some (some (.string ⟨#[]⟩), 1, 16) := by kernel_rfl
/-- Texts as values. -/
abbrev tx (l : List ByteArray) : List Value := l.map Value.string
theorem tx_getD (l : List ByteArray) {i : Nat} (h : i < l.length) : (tx l).getD i .nilFunc = .string (l.getD i ⟨#[]⟩) := by
  simp [tx, List.getD_eq_getElem?_getD, h]
theorem tx_one (l : List ByteArray) : ∀ x ∈ tx l, x.oneCell' = true := by
  intro x hx; simp [tx] at hx; obtain ⟨s, _, rfl⟩ := hx; rfl
theorem Reads.srow {w : World} {v : Value} {l : List ByteArray} (h : Reads w v (tx l)) : (v = .slice none 0 0 ∧ l = []) ∨ ∃ b off cap, v = .slice (some ⟨b, off, none⟩) l.length cap ∧ SRow w b off l := by
  rcases h with ⟨h1, h2⟩ | ⟨b, off, cap, h1, h2, h3⟩
  · exact .inl ⟨h1, by simpa using h2⟩
  · refine .inr ⟨b, off, cap, by rw [h1]; simp, ⟨fun i hi => ?_, h2⟩⟩
    rw [h3 i (by simpa using hi), tx_getD l hi]
theorem SRow.reads {w : World} {b off cap : Nat} {l : List ByteArray} (h : SRow w b off l) : Reads w (.slice (some ⟨b, off, none⟩) l.length cap) (tx l) :=
  .inr ⟨b, off, cap, by simp, h.lt, fun i hi => by rw [tx_getD l (by simpa using hi)]; exact h.cell i (by simpa using hi)⟩
/-- Rows that are not too great for any machine. -/
structure Fits (l : List ByteArray) : Prop where
  n : l.length ≤ 140737488355328
  m : ∀ i, i < l.length → (l.getD i ⟨#[]⟩).size ≤ 140737488355328
theorem right_r (v : Value) (l : List ByteArray) (w : World) (h : Reads w v (tx l)) (hF : Fits l) :
    Calls Tryd.prog 44 #[v] w fun e w' => e = .returned (.bool (mR l)) ∧ w = w' := by
  rcases h.srow with ⟨rfl, rfl⟩ | ⟨b, off, cap, rfl, hS⟩
  · exact right_nil w
  · exact right_any b off cap l w hS hF.n hF.m
theorem mR_facts {l : List ByteArray} (h : mR l = true) : 1 ≤ l.length ∧ l.length ≤ 16 ∧ 1 ≤ (l.getD 0 ⟨#[]⟩).size ∧ (l.getD 0 ⟨#[]⟩).size ≤ 4096 ∧ ∀ i, i < l.length → (l.getD i ⟨#[]⟩).size = (l.getD 0 ⟨#[]⟩).size := by
  unfold mR at h
  rw [Bool.and_eq_true, decide_eq_true_eq, List.all_eq_true] at h
  obtain ⟨⟨h1, h2, h3, h4⟩, h5⟩ := h
  refine ⟨h1, h2, h3, h4, fun i hi => ?_⟩
  have := h5 (l.getD i ⟨#[]⟩) (by rw [List.getD_eq_getElem?_getD, List.getElem?_eq_getElem hi]; exact List.getElem_mem hi)
  simpa using this
def mulOk (a b : List ByteArray) : Bool := mR a && mR b && ((a.getD 0 ⟨#[]⟩).size == b.length)
def mulL (a b : List ByteArray) : List ByteArray := if mulOk a b then a.map (fun f => comb f b b.length) else []
def mulE (a b : List ByteArray) : Int := if mulOk a b then 0 else 20
/-- The first k rows of a product; what is not done yet is empty. -/
def prodTo (a b : List ByteArray) (k : Nat) : List ByteArray := (a.take k).map (fun f => comb f b b.length) ++ List.replicate (a.length - k) ⟨#[]⟩
theorem prodTo_zero (a b : List ByteArray) : tx (prodTo a b 0) = List.replicate a.length (.string ⟨#[]⟩) := by simp [prodTo, tx]
theorem prodTo_length (a b : List ByteArray) {k : Nat} (h : k ≤ a.length) : (prodTo a b k).length = a.length := by simp [prodTo]; omega
theorem prodTo_all (a b : List ByteArray) : prodTo a b a.length = a.map (fun f => comb f b b.length) := by simp [prodTo]
theorem prodTo_succ (a b : List ByteArray) {k : Nat} (h : k < a.length) : tx (prodTo a b (k + 1)) = (tx (prodTo a b k)).set k (.string (comb (a.getD k ⟨#[]⟩) b b.length)) := by
  have e : (prodTo a b (k + 1)) = (prodTo a b k).set k (comb (a.getD k ⟨#[]⟩) b b.length) := by
    apply List.ext_getElem
    · rw [List.length_set, prodTo_length a b (by omega), prodTo_length a b (by omega)]
    · intro j h1 h2
      rw [prodTo_length a b (by omega)] at h1
      rw [List.getElem_set]
      simp only [prodTo, List.getElem_append, List.length_map, List.length_take, List.getElem_map, List.getElem_take, List.getElem_replicate]
      by_cases e : k = j
      · subst e; rw [if_pos rfl, dif_pos (by omega), List.getD_eq_getElem?_getD, List.getElem?_eq_getElem h]; rfl
      · rw [if_neg e]
        by_cases e2 : j < k
        · rw [dif_pos (by omega), dif_pos (by omega)]
        · rw [dif_neg (by omega), dif_neg (by omega)]
  rw [e, tx, List.map_set]
/-- A list of texts of one's own, and what was found. -/
def GivesL (w : World) (l : List ByteArray) (n : Int) (e : Ending) (w' : World) : Prop :=
  ∃ v, e = .returned (.tuple #[v, .int .i64 n]) ∧ Own w' w.heap.size 9 v (tx l) ∧ Below w.heap.size w w'
theorem mul_bad (w : World) (a b : List ByteArray) (h : Hid (mulOk a b = false)) (W : World) (hb : Below w.heap.size w W) : GivesL w (mulL a b) (mulE a b) (.returned (.tuple #[.slice none 0 0, .int .i64 20])) W :=
  ⟨.slice none 0 0, by simp [mulE, h.out], by simp [mulL, h.out]; exact Own.nil _ _ _, hb⟩
set_option maxRecDepth 100000 in
set_option maxHeartbeats 1000000 in
theorem mxmul_any (va vb : Value) (a b : List ByteArray) (w : World) (ht : Tabs w) (hA : Reads w va (tx a)) (hB : Reads w vb (tx b)) (fa : Fits a) (fb : Fits b) :
    Calls Tryd.prog 27 #[va, vb] w (GivesL w (mulL a b) (mulE a b)) := by
  have ra := right_r va a w hA fa
  have rb := right_r vb b w hB fb
  cases h1 : mR a with
  | false =>
    have hz : Hid (mulOk a b = false) := Lib.hid (by simp [mulOk, h1])
    rw [h1] at ra
    clear h1
    go_enter Tryd.func27, Tryd.ntmps27
    go_wp2_with (go_at_call 44; ((with_reducible refine ra.mono ?_); rintro e w' ⟨rfl, rfl⟩))
    go_ret2
    exact mul_bad w a b hz _ (Below.refl _ _)
  | true =>
    cases h2 : mR b with
    | false =>
      have hz : Hid (mulOk a b = false) := Lib.hid (by simp [mulOk, h2])
      rw [h1] at ra
      rw [h2] at rb
      clear h1 h2
      go_enter Tryd.func27, Tryd.ntmps27
      go_wp2_with (first | (go_at_call 44; ((with_reducible refine ra.mono ?_); rintro e w' ⟨rfl, rfl⟩)) | (go_at_call 44; ((with_reducible refine rb.mono ?_); rintro e w' ⟨rfl, rfl⟩)))
      go_ret2
      exact mul_bad w a b hz _ (Below.refl _ _)
    | true =>
      obtain ⟨ka1, ka2, ka3, ka4, ka5⟩ := mR_facts h1
      obtain ⟨kb1, kb2, kb3, kb4, kb5⟩ := mR_facts h2
      rw [h1] at ra
      rw [h2] at rb
      rcases hA.srow with ⟨_, rfl⟩ | ⟨ba, oa, ca, rfl, hSa⟩
      · simp at ka1
      rcases hB.srow with ⟨_, rfl⟩ | ⟨bb, ob, cb, rfl, hSb⟩
      · simp at kb1
      have hc0 := hSa.cell 0 (by omega)
      rw [Nat.add_zero] at hc0
      by_cases h3 : (a.getD 0 ⟨#[]⟩).size = b.length
      · have hz : Hid (mulOk a b = true) := Lib.hid (by simp [mulOk, h1, h2]; simpa using h3)
        have h3' := Lib.hid h3
        have t3 : ((((a.getD 0 ⟨#[]⟩).size : Nat) : Int) != ((b.length : Nat) : Int)) = false := by rw [h3]; exact bne_self_eq_false _
        obtain ⟨s0, hs0⟩ : ∃ r, a.getD 0 ⟨#[]⟩ = r := ⟨_, rfl⟩
        have hs0' := Lib.hid hs0
        rw [hs0] at hc0 t3
        clear h1 h2 h3 hs0
        have ka5' := Lib.hid ka5
        have kb5' := Lib.hid kb5
        clear ka5 kb5
        obtain ⟨i0, hi, hz0, hz1, hz2⟩ := info_parts Tryd.infoS
        obtain ⟨w1, hmk, hown1, hbel1⟩ := Own.make_run (P := Tryd.prog) (T := 22) Tryd.underlying22 hi hz0 hz1 hz2 rfl w a.length (by omega) (by omega)
        go_enter Tryd.func27, Tryd.ntmps27
        go_wp2_with (first | (go_at_call 44; ((with_reducible refine ra.mono ?_); rintro e w' ⟨rfl, rfl⟩)) | (go_at_call 44; ((with_reducible refine rb.mono ?_); rintro e w' ⟨rfl, rfl⟩)))
        have hsz := hbel1.size
        have ht1 : Tabs w1 := ht.below hbel1 ht.two
        have hlt1 := hown1.lt
        go_wp2
        go_loopw [7, 8, 31] (fun _ _ i wr => ∃ k : Nat, k ≤ a.length ∧ i = .int .i64 (k : Int) ∧ Own wr w.heap.size 9 (.slice (some ⟨w.heap.size, 0, none⟩) a.length a.length) (tx (prodTo a b k)) ∧ Below w.heap.size w wr) (fun _ _ i _ => a.length - (intOf i).toNat)
        case atStart => exact ⟨0, by omega, rfl, by rw [prodTo_zero]; exact hown1, hbel1⟩
        case round =>
          obtain ⟨k, hk, rfl, hown, hbel⟩ := hrel
          by_cases hlt : k < a.length
          · have hc := (hSa.below hbel).cell k hlt
            have hka := ka5'.out k hlt
            have b1 : (k : Int) < (a.length : Int) := by omega
            have htk : Tabs wr := ht.below hbel ht.two
            have hSk := hSb.below hbel
            have hcr := combine_any (a.getD k ⟨#[]⟩) bb ob cb b wr htk hSk kb1 (by omega) (by rw [hka]; exact Nat.le_of_eq h3'.out.symm) (by omega) (fun i hi => by rw [kb5'.out i hi]; omega)
            have hnx := Lib.hid (prodTo_succ a b hlt)
            have hlt2 := hown.lt
            have hk2 : k < (tx (prodTo a b k)).length := by rw [List.length_map, prodTo_length a b hk]; exact hlt
            generalize a.getD k ⟨#[]⟩ = rk at *
            clear hka
            go_wp2_with (go_at_call 45; ((with_reducible refine hcr.mono ?_); rintro e w2 ⟨rfl, hb2⟩; have hown2 := hown.after hb2; have hfz := hown2.frozen k; have hcl := hown2.cell (i := k) hk2))
            go_roundw
            case rel => exact ⟨k + 1, by omega, by go_num, by rw [hnx.out]; exact hown2.set k _, (hbel.trans (hb2.mono hbel.size)).setCell (Nat.le_refl _) _⟩
            case measure => simp [intOf]; omega
          · have e : k = a.length := by omega
            subst e
            go_wp2
            go_ret2
            rw [prodTo_all] at hown
            exact ⟨.slice (some ⟨w.heap.size, 0, none⟩) a.length a.length, by rw [mulE, if_pos hz.out]; rfl, by rw [mulL, if_pos hz.out]; exact hown, hbel⟩
      · have hz : Hid (mulOk a b = false) := Lib.hid (by simp [mulOk, h1, h2]; simpa using h3)
        have t3 : ((((a.getD 0 ⟨#[]⟩).size : Nat) : Int) != ((b.length : Nat) : Int)) = true := by rw [bne_iff_ne]; omega
        obtain ⟨s0, hs0⟩ : ∃ r, a.getD 0 ⟨#[]⟩ = r := ⟨_, rfl⟩
        rw [hs0] at hc0 t3
        clear h1 h2 h3 hs0 ka5 kb5
        go_enter Tryd.func27, Tryd.ntmps27
        go_wp2_with (first | (go_at_call 44; ((with_reducible refine ra.mono ?_); rintro e w' ⟨rfl, rfl⟩)) | (go_at_call 44; ((with_reducible refine rb.mono ?_); rintro e w' ⟨rfl, rfl⟩)))
        go_ret2
        exact mul_bad w a b hz _ (Below.refl _ _)
end Go.Proofs.YtcmnojflllcdfaaDoor
