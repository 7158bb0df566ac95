/- mat: raw squares. -/
import Derived.Test.YtocaboamlagaaaaDoorMatSame
namespace Go.Proofs.YtocaboamlagaaaaDoor
open Go.RowKit
set_option linter.unusedVariables false
set_option linter.unusedSimpArgs false

def sqEl (s : ByteArray) (n i j : Nat) : UInt8 := s.data[i * n + j]?.getD 0
def squareL (s : ByteArray) (n : Nat) : List ByteArray := mkM (sqEl s n) n n
theorem squareL_rect (s : ByteArray) (n : Nat) : Rect (squareL s n) n n := mkM_rect _ n n
/-- The first k rows, and no more. -/
def firstL (f : Nat → ByteArray) (k : Nat) : List ByteArray := (List.range k).map f
theorem firstL_succ (f : Nat → ByteArray) (k : Nat) : tx (firstL f (k + 1)) = tx (firstL f k) ++ [.string (f k)] := by simp [firstL, tx, List.range_succ]
theorem firstL_length (f : Nat → ByteArray) (k : Nat) : (firstL f k).length = k := by simp [firstL]
theorem mul_le_256 {k n : Nat} (hk : k ≤ 16) (hn : n ≤ 16) : k * n ≤ 256 := Nat.le_trans (Nat.mul_le_mul hk hn) (by decide)
set_option maxRecDepth 100000 in
set_option maxHeartbeats 2000000 in
theorem square_any (s : ByteArray) (n : Nat) (w : World) (hn : n ≤ 16) (hs : s.size ≤ 140737488355328) :
    Calls Tryd.prog 25 #[.string s, .int .i64 (n : Int)] w (GivesT w (squareL s n)) := by
  obtain ⟨i0, hi, hz0, hz1, hz2⟩ := info_parts Tryd.infoS
  obtain ⟨i1, hi1, hy0, hy1, hy2⟩ := info_parts Tryd.info5
  go_enter Tryd.func25, Tryd.ntmps25
  go_wp2
  go_loopw [5, 6, 7, 8] (fun v i _ _ wr => ∃ k : Nat, k ≤ n ∧ i = .int .i64 (k : Int) ∧ Own wr w.heap.size 9 v (tx (firstL (fun i => lineOf ((List.range n).map (sqEl s n i))) k)) ∧ Below w.heap.size w wr) (fun _ i _ _ _ => n - (intOf i).toNat)
  case atStart => exact ⟨0, by omega, rfl, Own.nil _ _ _, Below.refl _ _⟩
  case round =>
    obtain ⟨k, hk, rfl, hown, hbel⟩ := hrel
    obtain ⟨v, rfl⟩ : ∃ v, v = u5 := ⟨_, rfl⟩
    by_cases hlt : k < n
    · have b1 : (k : Int) < (n : Int) := by omega
      obtain ⟨w2, hmk2, hown2, hbel2⟩ := Own.make_run (P := Tryd.prog) (T := 36) Tryd.underlying36 hi1 hy0 hy1 hy2 rfl wr n (by omega) (by omega)
      have hnx := Lib.hid (firstL_succ (fun i => lineOf ((List.range n).map (sqEl s n i))) k)
      have hfl := firstL_length (fun i => lineOf ((List.range n).map (sqEl s n i))) k
      obtain ⟨wo, rfl⟩ : ∃ wo : World, wo = wr := ⟨_, rfl⟩
      go_wp2
      go_loopw [8] (fun j W => ∃ q : Nat, q ≤ n ∧ j = .int .i64 (q : Int) ∧ Own W wo.heap.size 5 (.slice (some ⟨wo.heap.size, 0, none⟩) n n) ((rowTo (sqEl s n k) n q).map byteVal) ∧ Below wo.heap.size wo W) (fun j _ => n - (intOf j).toNat)
      case atStart => exact ⟨0, by omega, rfl, by rw [rowTo_zero]; exact hown2, hbel2⟩
      case round =>
        obtain ⟨q, hq, rfl, hownq, hbelq⟩ := hrel
        by_cases hlq : q < n
        · have b2 : (q : Int) < (n : Int) := by omega
          have hfz := hownq.frozen q
          have hcl := hownq.cell (i := q) (by rw [List.length_map, rowTo_length _ hq]; exact hlq)
          have hkn := mul_le_256 (k := k) (n := n) (by omega) hn
          have b3 : (k : Int) * (n : Int) = ((k * n : Nat) : Int) := by push_cast; rfl
          have hnq : Hid ((rowTo (sqEl s n k) n (q + 1)).map byteVal = ((rowTo (sqEl s n k) n q).map byteVal).set q (.int .u8 (((sqEl s n k q).toNat : Nat) : Int))) := Lib.hid (by rw [rowTo_succ _ hlq, List.map_set]; rfl)
          clear hmk2 hown2
          by_cases hin : k * n + q < s.size
          · have b4 : (k : Int) * (n : Int) + (q : Int) < (s.size : Int) := by omega
            have b5 : 0 ≤ (k : Int) * (n : Int) := by omega
            have b6 : ((k : Int) * (n : Int) + (q : Int)).toNat = k * n + q := by omega
            have hsq : Hid ((((sqEl s n k q).toNat : Nat) : Int) = (((s[k * n + q]).toNat : Nat) : Int)) := Lib.hid (by
              rw [sqEl, Array.getElem?_eq_getElem (by simpa using hin)]; rfl)
            have b7 : (k : Int) * (n : Int) ≤ 256 := by omega
            clear b3 hkn
            go_wp2
            go_roundw
            case rel => exact ⟨q + 1, by omega, by go_num, by rw [hnq.out, hsq.out]; exact hownq.set q _, hbelq.setCell (Nat.le_refl _) _⟩
            case measure => simp [intOf]; omega
          · have b4 : decide ((k : Int) * (n : Int) + (q : Int) < (s.size : Int)) = false := by simp; omega
            have b5 : 0 ≤ (k : Int) * (n : Int) := by omega
            have b7 : (k : Int) * (n : Int) ≤ 256 := by omega
            have hsq : Hid (sqEl s n k q = 0) := Lib.hid (by
              rw [sqEl, Array.getElem?_eq_none (by simpa using hin)]; rfl)
            have hset : Hid ((rowTo (sqEl s n k) n (q + 1)).map byteVal = (rowTo (sqEl s n k) n q).map byteVal) := Lib.hid (by
              rw [rowTo, rowTo, List.range_succ, List.map_append (f := sqEl s n k), List.append_assoc]
              rw [show n - q = (n - (q + 1)) + 1 by omega, List.replicate_succ]
              simp [hsq.out])
            clear b3 hkn
            go_wp2
            go_roundw
            case rel => exact ⟨q + 1, by omega, by go_num, by rw [hset.out]; exact hownq, hbelq⟩
            case measure => simp [intOf]; omega
        · have e : q = n := by omega
          subst e
          rw [rowTo_all] at hownq
          have hst := own_back hownq.o
          have hown3 := hown.after hbelq
          have hb3 : Below w.heap.size w wr := hbel.trans (hbelq.mono hbel.size)
          obtain ⟨v', w', hap, hown4, hb4⟩ := Own.push (P := Tryd.prog) (T := 22) Tryd.underlying22 hi hz0 hz1 hz2 rfl hown3 (.string (lineOf ((List.range q).map (sqEl s q k)))) rfl hb3.size (by rw [List.length_map, hfl]; omega) (by rw [List.length_map, hfl]; omega)
          clear hmk2 hown2
          go_wp2_with (at_builtin; refine wpList_append_run hap _ _ rfl rfl rfl rfl rfl ?_)
          go_roundw
          case rel => exact ⟨k + 1, by omega, by go_num, by rw [hnx.out]; exact hown4, hb3.trans hb4⟩
          case measure => simp [intOf]; omega
    · have e : k = n := by omega
      subst e
      go_wp2
      go_ret
      exact ⟨v, rfl, hown, hbel⟩
end Go.Proofs.YtocaboamlagaaaaDoor
