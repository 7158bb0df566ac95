/- mat: matrices that are told element by element. -/
import Derived.Test.YtcmnojflllcdfaaDoorMatMul
import Derived.Test.YtcmnojflllcdfaaDoorMatMath
import Derived.OneCell
namespace Go.Proofs.YtcmnojflllcdfaaDoor
open Go.RowKit
set_option linter.unusedVariables false
set_option linter.unusedSimpArgs false

def fitsB (n : Int) : Bool := decide (1 ≤ n ∧ n ≤ 16)
theorem fits_any (n : Int) (w : World) : Calls Tryd.prog 39 #[.int .i64 n] w fun e w' => e = .returned (.bool (fitsB n)) ∧ w = w' := by
  by_cases h1 : 1 ≤ n
  · have t1 : decide (1 ≤ n) = true := by simpa using h1
    cases t2 : decide (n ≤ 16) with
    | true =>
      have hz : Hid (fitsB n = true) := Lib.hid (by simp at t2; simp [fitsB]; omega)
      go_enter Tryd.func39, Tryd.ntmps39
      go_wp2
      go_ret
      exact ⟨by rw [hz.out]; rfl, rfl⟩
    | false =>
      have hz : Hid (fitsB n = false) := Lib.hid (by simp at t2; simp [fitsB]; omega)
      go_enter Tryd.func39, Tryd.ntmps39
      go_wp2
      go_ret
      exact ⟨by rw [hz.out]; rfl, rfl⟩
  · have t1 : decide (1 ≤ n) = false := by simpa using h1
    have hz : Hid (fitsB n = false) := Lib.hid (by simp [fitsB]; omega)
    go_enter Tryd.func39, Tryd.ntmps39
    go_wp2
    go_ret
    exact ⟨by rw [hz.out]; rfl, rfl⟩
/-- The first k bytes of a row; noughts behind. -/
def rowTo (el : Nat → UInt8) (n k : Nat) : List UInt8 := (List.range k).map el ++ List.replicate (n - k) 0
theorem rowTo_length (el : Nat → UInt8) {n k : Nat} (h : k ≤ n) : (rowTo el n k).length = n := by simp [rowTo]; omega
theorem rowTo_succ (el : Nat → UInt8) {n k : Nat} (h : k < n) : rowTo el n (k + 1) = (rowTo el n k).set k (el k) := by
  apply List.ext_getElem
  · rw [List.length_set, rowTo_length el (by omega), rowTo_length el (by omega)]
  · intro j h1 h2
    rw [rowTo_length el (by omega)] at h1
    rw [List.getElem_set]
    simp only [rowTo, List.getElem_append, List.length_map, List.length_range, List.getElem_map, List.getElem_range, List.getElem_replicate]
    by_cases e : k = j
    · subst e; rw [if_pos rfl, dif_pos (by omega)]
    · rw [if_neg e]
      by_cases e2 : j < k
      · rw [dif_pos (by omega), dif_pos e2]
      · rw [dif_neg (by omega), dif_neg e2]
theorem rowTo_all (el : Nat → UInt8) (n : Nat) : rowTo el n n = (List.range n).map el := by simp [rowTo]
theorem rowTo_zero (el : Nat → UInt8) (n : Nat) : (rowTo el n 0).map byteVal = List.replicate n (.int .u8 0) := by simp [rowTo, byteVal]
/-- The first k rows; what is not done yet is empty. -/
def linesTo (f : Nat → ByteArray) (n k : Nat) : List ByteArray := (List.range k).map f ++ List.replicate (n - k) ⟨#[]⟩
theorem linesTo_length (f : Nat → ByteArray) {n k : Nat} (h : k ≤ n) : (linesTo f n k).length = n := by simp [linesTo]; omega
theorem linesTo_succ (f : Nat → ByteArray) {n k : Nat} (h : k < n) : tx (linesTo f n (k + 1)) = (tx (linesTo f n k)).set k (.string (f k)) := by
  have e : linesTo f n (k + 1) = (linesTo f n k).set k (f k) := by
    apply List.ext_getElem
    · rw [List.length_set, linesTo_length f (by omega), linesTo_length f (by omega)]
    · intro j h1 h2
      rw [linesTo_length f (by omega)] at h1
      rw [List.getElem_set]
      simp only [linesTo, List.getElem_append, List.length_map, List.length_range, List.getElem_map, List.getElem_range, List.getElem_replicate]
      by_cases e : k = j
      · subst e; rw [if_pos rfl, dif_pos (by omega)]
      · rw [if_neg e]
        by_cases e2 : j < k
        · rw [dif_pos (by omega), dif_pos e2]
        · rw [dif_neg (by omega), dif_neg e2]
  rw [e, tx, List.map_set]
theorem linesTo_all (f : Nat → ByteArray) (n : Nat) : linesTo f n n = (List.range n).map f := by simp [linesTo]
theorem linesTo_zero (f : Nat → ByteArray) (n : Nat) : tx (linesTo f n 0) = List.replicate n (.string ⟨#[]⟩) := by simp [linesTo, tx]
/-- A matrix by its elements. -/
def mkM (el : Nat → Nat → UInt8) (m n : Nat) : List ByteArray := (List.range m).map fun i => lineOf ((List.range n).map (el i))
/-- A list of texts of one's own. -/
def GivesT (w : World) (l : List ByteArray) (e : Ending) (w' : World) : Prop :=
  ∃ v, e = .returned v ∧ Own w' w.heap.size 9 v (tx l) ∧ Below w.heap.size w w'

set_option maxRecDepth 100000 in
set_option maxHeartbeats 1000000 in
theorem build_id (m n : Nat) (el : Nat → Nat → UInt8) (w : World) (hm : m ≤ 16) (hn : n ≤ 16)
    (hel : ∀ i j : Nat, i < m → j < n → ∀ W, Below w.heap.size w W → Calls Tryd.prog 56 #[.int .i64 (i : Int), .int .i64 (j : Int)] W fun e w' => e = .returned (.int .u8 (((el i j).toNat : Nat) : Int)) ∧ W = w') :
    Calls Tryd.prog 40 #[.int .i64 (m : Int), .int .i64 (n : Int), .func (.func 56) #[] #[]] w (GivesT w (mkM el m n)) := by
  obtain ⟨i0, hi, hz0, hz1, hz2⟩ := info_parts Tryd.infoS
  obtain ⟨i1, hi1, hy0, hy1, hy2⟩ := info_parts Tryd.info5
  obtain ⟨w1, hmk, hown1, hbel1⟩ := Own.make_run (P := Tryd.prog) (T := 22) Tryd.underlying22 hi hz0 hz1 hz2 rfl w m (by omega) (by omega)
  have hHel := Lib.hid hel
  clear hel
  go_enter Tryd.func40, Tryd.ntmps40
  go_wp2
  go_loopw [8, 9, 10, 14, 20] (fun _ _ _ i _ wr => ∃ k : Nat, k ≤ m ∧ i = .int .i64 (k : Int) ∧ Own wr w.heap.size 9 (.slice (some ⟨w.heap.size, 0, none⟩) m m) (tx (linesTo (fun i => lineOf ((List.range n).map (el i))) m k)) ∧ Below w.heap.size w wr) (fun _ _ _ i _ _ => m - (intOf i).toNat)
  case atStart => exact ⟨0, by omega, rfl, by rw [linesTo_zero]; exact hown1, hbel1⟩
  case round =>
    obtain ⟨k, hk, rfl, hown, hbel⟩ := hrel
    by_cases hlt : k < m
    · have b1 : (k : Int) < (m : Int) := by omega
      have hltw := hown.lt
      obtain ⟨w2, hmk2, hown2, hbel2⟩ := Own.make_run (P := Tryd.prog) (T := 41) Tryd.underlying41 hi1 hy0 hy1 hy2 rfl wr n (by omega) (by omega)
      have hnx := Lib.hid (linesTo_succ (fun i => lineOf ((List.range n).map (el i))) hlt)
      have hkl : k < (tx (linesTo (fun i => lineOf ((List.range n).map (el i))) m k)).length := by rw [List.length_map, linesTo_length _ hk]; exact hlt
      clear hmk hown1
      obtain ⟨wo, rfl⟩ : ∃ wo : World, wo = wr := ⟨_, rfl⟩
      have hbo := hbel2.mono hbel.size
      go_wp2
      go_loopw [10, 20] (fun _ j W => ∃ q : Nat, q ≤ n ∧ j = .int .i64 (q : Int) ∧ Own W wo.heap.size 5 (.slice (some ⟨wo.heap.size, 0, none⟩) n n) ((rowTo (el k) n q).map byteVal) ∧ Below wo.heap.size wo W) (fun _ j _ => n - (intOf j).toNat)
      case atStart => exact ⟨0, by omega, rfl, by rw [rowTo_zero]; exact hown2, hbel2⟩
      case round =>
        obtain ⟨q, hq, rfl, hownq, hbelq⟩ := hrel
        by_cases hlq : q < n
        · have b2 : (q : Int) < (n : Int) := by omega
          have hc := hHel.out k q hlt hlq wr (hbel.trans (hbelq.mono hbel.size))
          have hfz := hownq.frozen q
          have hcl := hownq.cell (i := q) (by rw [List.length_map, rowTo_length _ hq]; exact hlq)
          have hnq : Hid ((rowTo (el k) n (q + 1)).map byteVal = ((rowTo (el k) n q).map byteVal).set q (.int .u8 (((el k q).toNat : Nat) : Int))) := Lib.hid (by rw [rowTo_succ _ hlq, List.map_set]; rfl)
          go_wp2_with (go_at_call 56; ((with_reducible refine hc.mono ?_); rintro e w3 ⟨rfl, rfl⟩))
          go_roundw
          case rel => exact ⟨q + 1, by omega, by go_num, by rw [hnq.out]; exact hownq.set q _, hbelq.setCell (Nat.le_refl _) _⟩
          case measure => simp [intOf]; omega
        · have e : q = n := by omega
          subst e
          rw [rowTo_all] at hownq
          have hst := own_back hownq.o
          have hown3 := hown.after hbelq
          have hfz := hown3.frozen k
          have hcl := hown3.cell (i := k) hkl
          go_wp2
          go_roundw
          case rel => exact ⟨k + 1, by omega, by go_num, by rw [hnx.out]; exact hown3.set k _, (hbel.trans (hbelq.mono hbel.size)).setCell (Nat.le_refl _) _⟩
          case measure => simp [intOf]; omega
    · have e : k = m := by omega
      subst e
      go_wp2
      go_ret
      rw [linesTo_all] at hown
      exact ⟨.slice (some ⟨w.heap.size, 0, none⟩) k k, rfl, hown, hbel⟩

set_option maxRecDepth 100000 in
set_option maxHeartbeats 1000000 in
theorem build_cauchy (m n : Nat) (el : Nat → Nat → UInt8) (w : World) (a : Addr) (hm : m ≤ 16) (hn : n ≤ 16)
    (hel : ∀ i j : Nat, i < m → j < n → ∀ W, Below w.heap.size w W → Calls Tryd.prog 41 #[.int .i64 (i : Int), .int .i64 (j : Int), .pointer (some a)] W fun e w' => e = .returned (.int .u8 (((el i j).toNat : Nat) : Int)) ∧ W = w') :
    Calls Tryd.prog 40 #[.int .i64 (m : Int), .int .i64 (n : Int), .func (.func 41) #[] #[.pointer (some a)]] w (GivesT w (mkM el m n)) := by
  obtain ⟨i0, hi, hz0, hz1, hz2⟩ := info_parts Tryd.infoS
  obtain ⟨i1, hi1, hy0, hy1, hy2⟩ := info_parts Tryd.info5
  obtain ⟨w1, hmk, hown1, hbel1⟩ := Own.make_run (P := Tryd.prog) (T := 22) Tryd.underlying22 hi hz0 hz1 hz2 rfl w m (by omega) (by omega)
  have hHel := Lib.hid hel
  clear hel
  go_enter Tryd.func40, Tryd.ntmps40
  go_wp2
  go_loopw [8, 9, 10, 14, 20] (fun _ _ _ i _ wr => ∃ k : Nat, k ≤ m ∧ i = .int .i64 (k : Int) ∧ Own wr w.heap.size 9 (.slice (some ⟨w.heap.size, 0, none⟩) m m) (tx (linesTo (fun i => lineOf ((List.range n).map (el i))) m k)) ∧ Below w.heap.size w wr) (fun _ _ _ i _ _ => m - (intOf i).toNat)
  case atStart => exact ⟨0, by omega, rfl, by rw [linesTo_zero]; exact hown1, hbel1⟩
  case round =>
    obtain ⟨k, hk, rfl, hown, hbel⟩ := hrel
    by_cases hlt : k < m
    · have b1 : (k : Int) < (m : Int) := by omega
      have hltw := hown.lt
      obtain ⟨w2, hmk2, hown2, hbel2⟩ := Own.make_run (P := Tryd.prog) (T := 41) Tryd.underlying41 hi1 hy0 hy1 hy2 rfl wr n (by omega) (by omega)
      have hnx := Lib.hid (linesTo_succ (fun i => lineOf ((List.range n).map (el i))) hlt)
      have hkl : k < (tx (linesTo (fun i => lineOf ((List.range n).map (el i))) m k)).length := by rw [List.length_map, linesTo_length _ hk]; exact hlt
      clear hmk hown1
      obtain ⟨wo, rfl⟩ : ∃ wo : World, wo = wr := ⟨_, rfl⟩
      have hbo := hbel2.mono hbel.size
      go_wp2
      go_loopw [10, 20] (fun _ j W => ∃ q : Nat, q ≤ n ∧ j = .int .i64 (q : Int) ∧ Own W wo.heap.size 5 (.slice (some ⟨wo.heap.size, 0, none⟩) n n) ((rowTo (el k) n q).map byteVal) ∧ Below wo.heap.size wo W) (fun _ j _ => n - (intOf j).toNat)
      case atStart => exact ⟨0, by omega, rfl, by rw [rowTo_zero]; exact hown2, hbel2⟩
      case round =>
        obtain ⟨q, hq, rfl, hownq, hbelq⟩ := hrel
        by_cases hlq : q < n
        · have b2 : (q : Int) < (n : Int) := by omega
          have hc := hHel.out k q hlt hlq wr (hbel.trans (hbelq.mono hbel.size))
          have hfz := hownq.frozen q
          have hcl := hownq.cell (i := q) (by rw [List.length_map, rowTo_length _ hq]; exact hlq)
          have hnq : Hid ((rowTo (el k) n (q + 1)).map byteVal = ((rowTo (el k) n q).map byteVal).set q (.int .u8 (((el k q).toNat : Nat) : Int))) := Lib.hid (by rw [rowTo_succ _ hlq, List.map_set]; rfl)
          go_wp2_with (go_at_call 41; ((with_reducible refine hc.mono ?_); rintro e w3 ⟨rfl, rfl⟩))
          go_roundw
          case rel => exact ⟨q + 1, by omega, by go_num, by rw [hnq.out]; exact hownq.set q _, hbelq.setCell (Nat.le_refl _) _⟩
          case measure => simp [intOf]; omega
        · have e : q = n := by omega
          subst e
          rw [rowTo_all] at hownq
          have hst := own_back hownq.o
          have hown3 := hown.after hbelq
          have hfz := hown3.frozen k
          have hcl := hown3.cell (i := k) hkl
          go_wp2
          go_roundw
          case rel => exact ⟨k + 1, by omega, by go_num, by rw [hnx.out]; exact hown3.set k _, (hbel.trans (hbelq.mono hbel.size)).setCell (Nat.le_refl _) _⟩
          case measure => simp [intOf]; omega
    · have e : k = m := by omega
      subst e
      go_wp2
      go_ret
      rw [linesTo_all] at hown
      exact ⟨.slice (some ⟨w.heap.size, 0, none⟩) k k, rfl, hown, hbel⟩

/-- The identity's elements, and those of Cauchy's matrices. -/
def idEl (i j : Nat) : UInt8 := if i = j then 1 else 0
def cyEl (m i j : Nat) : UInt8 := UInt8.ofNat (Gf.gi (i ^^^ (m + j)))
theorem cyEl_toNat (m i j : Nat) : (cyEl m i j).toNat = Gf.gi (i ^^^ (m + j)) := by
  have := Gf.gi_lt (i ^^^ (m + j))
  simp [cyEl, UInt8.toNat_ofNat']; omega
theorem idel_any (i j : Nat) (w : World) (hi : i < 16) (hj : j < 16) :
    Calls Tryd.prog 56 #[.int .i64 (i : Int), .int .i64 (j : Int)] w fun e w' => e = .returned (.int .u8 (((idEl i j).toNat : Nat) : Int)) ∧ w = w' := by
  by_cases h : i = j
  · have t : ((i : Int) == (j : Int)) = true := by rw [beq_iff_eq]; omega
    have hz : Hid ((((idEl i j).toNat : Nat) : Int) = 1) := Lib.hid (by rw [idEl, if_pos h]; rfl)
    clear h
    go_enter Tryd.func56, Tryd.ntmps56
    go_wp2
    go_ret
    exact ⟨by rw [hz.out]; rfl, rfl⟩
  · have t : ((i : Int) == (j : Int)) = false := by rw [beq_eq_false_iff_ne]; omega
    have hz : Hid ((((idEl i j).toNat : Nat) : Int) = 0) := Lib.hid (by rw [idEl, if_neg h]; rfl)
    clear h
    go_enter Tryd.func56, Tryd.ntmps56
    go_wp2
    go_ret
    exact ⟨by rw [hz.out]; rfl, rfl⟩
theorem xor_pos' {a b : Nat} (h : a ≠ b) : a ^^^ b ≠ 0 := fun e => h (by
  have : a ^^^ b ^^^ b = 0 ^^^ b := by rw [e]
  rwa [Nat.xor_assoc, Nat.xor_self, Nat.xor_zero, Nat.zero_xor] at this)
theorem u8_wrap (n : Int) (h1 : 0 ≤ n) (h2 : n < 256) : IntKind.u8.wrap n = n := by
  simp [IntKind.wrap, IntKind.bits, IntKind.signed]; omega
set_option maxRecDepth 100000 in
theorem cyel_any (i j m : Nat) (a : Addr) (w : World) (ht : Tabs w) (hi : i < m) (hm : m ≤ 16) (hj : j < 16) (ha : w.cell? a = some (.int .i64 (m : Int))) :
    Calls Tryd.prog 41 #[.int .i64 (i : Int), .int .i64 (j : Int), .pointer (some a)] w fun e w' => e = .returned (.int .u8 (((cyEl m i j).toNat : Nat) : Int)) ∧ w = w' := by
  have hx := Gf.xor_lt (x := i) (y := m + j) (by omega) (by omega)
  have hp := xor_pos' (a := i) (b := m + j) (by omega)
  have hz : Hid ((((cyEl m i j).toNat : Nat) : Int) = ((Gf.gi (i ^^^ (m + j)) : Nat) : Int)) := Lib.hid (by rw [cyEl_toNat])
  have u1 := u8_wrap (i : Int) (by omega) (by omega)
  have u2 := u8_wrap ((m : Int) + (j : Int)) (by omega) (by omega)
  have hadd := add_any (i : Int) ((m : Int) + (j : Int)) w (by omega) (by omega) (by omega) (by omega)
  rw [show (i : Int).toNat = i by omega, show ((m : Int) + (j : Int)).toNat = m + j by omega] at hadd
  generalize i ^^^ (m + j) = x at *
  have hinv := inv_some (x : Int) w ht (by omega) (by omega)
  rw [show (x : Int).toNat = x by omega] at hinv
  clear hx hp
  go_enter Tryd.func41, Tryd.ntmps41
  go_wp2_with (first
    | (go_at_call 43; ((with_reducible refine hadd.mono ?_); rintro e w3 ⟨rfl, rfl⟩))
    | (go_at_call 42; ((with_reducible refine hinv.mono ?_); rintro e w3 ⟨rfl, rfl⟩)))
  go_ret
  exact ⟨by rw [hz.out]; rfl, rfl⟩
def idL (n : Int) : List ByteArray := if fitsB n then mkM idEl n.toNat n.toNat else []
def idE (n : Int) : Int := if fitsB n then 0 else 20
set_option maxRecDepth 100000 in
theorem identity_any (n : Int) (w : World) :
    Calls Tryd.prog 49 #[.int .i64 n] w (GivesL w (idL n) (idE n)) := by
  have hf := fits_any n w
  cases h : fitsB n with
  | true =>
    have h1 : 1 ≤ n ∧ n ≤ 16 := by simpa [fitsB] using h
    have hz1 : Hid (idL n = mkM idEl n.toNat n.toNat) := Lib.hid (by rw [idL, if_pos h])
    have hz2 : Hid (idE n = 0) := Lib.hid (by rw [idE, if_pos h])
    rw [h] at hf
    obtain ⟨n, rfl⟩ := Int.eq_ofNat_of_zero_le (show 0 ≤ n by omega)
    have hb := build_id n n idEl w (by omega) (by omega) (fun i j hi hj W _ => idel_any i j W (by omega) (by omega))
    rw [show ((n : Int)).toNat = n by omega] at hz1
    clear h h1
    go_enter Tryd.func49, Tryd.ntmps49
    go_wp2_with (first
      | (go_at_call 39; ((with_reducible refine hf.mono ?_); rintro e w3 ⟨rfl, rfl⟩))
      | (go_at_call 40; ((with_reducible refine hb.mono ?_); rintro e w3 ⟨v, rfl, hown, hbel⟩)))
    go_ret2
    exact ⟨v, by rw [hz2.out]; rfl, by rw [hz1.out]; exact hown, hbel⟩
  | false =>
    have hz1 : Hid (idL n = []) := Lib.hid (by rw [idL, h]; rfl)
    have hz2 : Hid (idE n = 20) := Lib.hid (by rw [idE, h]; rfl)
    rw [h] at hf
    clear h
    go_enter Tryd.func49, Tryd.ntmps49
    go_wp2_with (go_at_call 39; ((with_reducible refine hf.mono ?_); rintro e w3 ⟨rfl, rfl⟩))
    go_ret2
    exact ⟨.slice none 0 0, by rw [hz2.out]; rfl, by rw [hz1.out]; exact Own.nil _ _ _, Below.refl _ _⟩
def cyL (k m : Int) : List ByteArray := if fitsB k && fitsB m then mkM (cyEl m.toNat) m.toNat k.toNat else []
def cyE (k m : Int) : Int := if fitsB k && fitsB m then 0 else 20
set_option maxRecDepth 100000 in
theorem cauchy_any (k m : Int) (w : World) (ht : Tabs w) :
    Calls Tryd.prog 26 #[.int .i64 k, .int .i64 m] w (GivesL w (cyL k m) (cyE k m)) := by
  cases h : fitsB k with
  | true =>
    cases h' : fitsB m with
    | true =>
      have h1 : 1 ≤ k ∧ k ≤ 16 := by simpa [fitsB] using h
      have h2 : 1 ≤ m ∧ m ≤ 16 := by simpa [fitsB] using h'
      have hz1 : Hid (cyL k m = mkM (cyEl m.toNat) m.toNat k.toNat) := Lib.hid (by rw [cyL, h, h']; rfl)
      have hz2 : Hid (cyE k m = 0) := Lib.hid (by rw [cyE, h, h']; rfl)
      have hf := fun W => fits_any k W
      have hf' := fun W => fits_any m W
      rw [h] at hf
      rw [h'] at hf'
      obtain ⟨k, rfl⟩ := Int.eq_ofNat_of_zero_le (show 0 ≤ k by omega)
      obtain ⟨m, rfl⟩ := Int.eq_ofNat_of_zero_le (show 0 ≤ m by omega)
      rw [show ((m : Int)).toNat = m by omega, show ((k : Int)).toNat = k by omega] at hz1
      have hb := fun W0 (hW0 : Tabs W0) a (hlt : a.block < W0.heap.size) (hc : W0.cell? a = some (.int .i64 (m : Int))) => build_cauchy m k (cyEl m) W0 a (by omega) (by omega) (fun i j hi hj W hW => cyel_any i j m a W (hW0.below hW hW0.two) hi (by omega) (by omega) (by rw [hW.cell hlt]; exact hc))
      clear h h1 h' h2
      have htw := ht.alloc (.cells #[.int .i64 (m : Int)] 3)
      have hb2 := hb _ htw ⟨w.heap.size, 0, none⟩ (by simp) (by rw [World.cell?_alloc_mark]; rfl)
      clear hb
      go_enter Tryd.func26, Tryd.ntmps26
      go_wp2_with (first
        | (go_at_call 39; ((with_reducible refine (hf _).mono ?_); rintro e w3 ⟨rfl, rfl⟩))
        | (go_at_call 39; ((with_reducible refine (hf' _).mono ?_); rintro e w3 ⟨rfl, rfl⟩))
        | (go_at_call 40; ((with_reducible refine hb2.mono ?_); rintro e w3 ⟨v, rfl, hown, hbel⟩)))
      go_ret2
      exact ⟨v, by rw [hz2.out]; rfl, by rw [hz1.out]; exact hown.mono (by simp), ((Below.refl _ w).alloc (Nat.le_refl _) _).trans (hbel.mono (by simp))⟩
    | false =>
      have hz1 : Hid (cyL k m = []) := Lib.hid (by rw [cyL, h, h']; rfl)
      have hz2 : Hid (cyE k m = 20) := Lib.hid (by rw [cyE, h, h']; rfl)
      have hf := fun W => fits_any k W
      have hf' := fun W => fits_any m W
      rw [h] at hf
      rw [h'] at hf'
      clear h h'
      go_enter Tryd.func26, Tryd.ntmps26
      go_wp2_with (first
        | (go_at_call 39; ((with_reducible refine (hf _).mono ?_); rintro e w3 ⟨rfl, rfl⟩))
        | (go_at_call 39; ((with_reducible refine (hf' _).mono ?_); rintro e w3 ⟨rfl, rfl⟩)))
      go_ret2
      exact ⟨.slice none 0 0, by rw [hz2.out]; rfl, by rw [hz1.out]; exact Own.nil _ _ _, (Below.refl _ w).alloc (Nat.le_refl _) _⟩
  | false =>
    have hz1 : Hid (cyL k m = []) := Lib.hid (by rw [cyL, h]; rfl)
    have hz2 : Hid (cyE k m = 20) := Lib.hid (by rw [cyE, h]; rfl)
    have hf := fun W => fits_any k W
    rw [h] at hf
    clear h
    go_enter Tryd.func26, Tryd.ntmps26
    go_wp2_with (go_at_call 39; ((with_reducible refine (hf _).mono ?_); rintro e w3 ⟨rfl, rfl⟩))
    go_ret2
    exact ⟨.slice none 0 0, by rw [hz2.out]; rfl, by rw [hz1.out]; exact Own.nil _ _ _, (Below.refl _ w).alloc (Nat.le_refl _) _⟩
end Go.Proofs.YtcmnojflllcdfaaDoor
