/- label: the fields of a label. -/
import Derived.Test.YtaopknddpagjeaaDoorLabWalk5
import Derived.Test.YtaopknddpagjeaaDoorSk
import Derived.RegionTactic
import Derived.Deep.RegionHeld3
import Derived.Deep.RegionLaw
namespace Go.Proofs.YtaopknddpagjeaaDoor
open Go.RowKit
set_option linter.unusedVariables false
set_option linter.unusedSimpArgs false
open Lb

/-- A field: where the number stands, and in how many bytes. -/
def fieldE : Enc (Addr × Int) := ⟨2, fun a => [.pointer (some a.1), .int .i64 a.2], by decide, fun _ => rfl, fun a u h => by
  simp only [List.mem_cons, List.not_mem_nil, or_false] at h
  rcases h with rfl | rfl <;> rfl⟩
def headF (p : Nat) : List (Addr × Int) := [(⟨p, 0, none⟩, 2), (⟨p, 1, none⟩, 1), (⟨p, 3, none⟩, 1), (⟨p, 4, none⟩, 1), (⟨p, 5, none⟩, 1), (⟨p, 2, none⟩, 6)]
def headC (p : Nat) : Array Value := #[.pointer (some ⟨p, 0, none⟩), .int .i64 2, .pointer (some ⟨p, 1, none⟩), .int .i64 1, .pointer (some ⟨p, 3, none⟩), .int .i64 1, .pointer (some ⟨p, 4, none⟩), .int .i64 1, .pointer (some ⟨p, 5, none⟩), .int .i64 1, .pointer (some ⟨p, 2, none⟩), .int .i64 6]
set_option maxRecDepth 100000 in
set_option maxHeartbeats 4000000 in
theorem head_any (p : Nat) (w : World) : Calls Tryd.prog 28 #[.pointer (some ⟨p, 0, none⟩)] w fun e w' => ∃ v, e = .returned v ∧ OwnE fieldE w' w.heap.size 61 v (headF p) ∧ Below w.heap.size w w' ∧ ∃ k, v.ownBlock = some k := by
  have hfin : ∀ q, OwnE fieldE ((w.drewN q).alloc (.cells (headC p) 61)) w.heap.size 61 (.slice (some ⟨w.heap.size, 0, none⟩) 6 6) (headF p) := fun q => OwnE.lit fieldE (w.drewN q) 61 (headF p) (headC p) rfl (by unfold maxLen; exact Nat.le_of_ble_eq_true rfl)
  unfold headC at hfin
  go_enter Tryd.func28, Tryd.ntmps28
  go_wp2_with (fail)
  go_region
  go_wp2_with (fail)
  go_ret
  exact ⟨_, rfl, (hfin 0).drew, (((Below.refl _ _).alloc (Nat.le_refl _) _)).drew, _, rfl⟩
theorem step_append_run {P : Program} {ops : Array Oper} {o : Oper} {a : Act} {w : World} {K : Act → World → Prop} {Q : Exit → Act → World → Prop} {E : Prop} {t ty : TypeId} {v xv v' : Value} {w' : World}
    (hr : (Builtin.append_ #[t, t] ty #[v, xv]).run P w = .ok v' w') (s x : Operand) (hg : o.guard = none) (hop : o.op = Op.call { callee := Callee.builtin Builtin.append, args := #[s, x], argTypes := #[t, t] })
    (hty : o.type = ty) (hs : a.eval s = v) (hx : a.eval x = xv) (hK : K (a.put o.dst v') w') : if Region.wanted o (yielded ops a.tmps) = true then Oper.wp P o a w K Q else E := by
  have hw : Region.wanted o (yielded ops a.tmps) = true := by simp [Region.wanted, hg]
  rw [if_pos hw]
  subst hty
  unfold Oper.wp
  simp [execOp, hop, resolve, invoke, builtin, hs, hx, hr, Result.andThen]
  exact hK
theorem Tryd.infoF : (Tryd.prog.info? 61).map (fun i => (i.zero, i.size, i.bytes)) = some (some (.agg #[.pointer none, .int .i64 0]), 2, 16) := by kernel_rfl
def fld3 (sb so bb bo cb co k : Nat) : List (Addr × Int) := [(⟨sb, so + k, none⟩, 1), (⟨bb, bo + k, none⟩, 6), (⟨cb, co + k, none⟩, 1)]
def tailF (sb so bb bo cb co : Nat) : Nat → List (Addr × Int)
  | 0 => []
  | k + 1 => tailF sb so bb bo cb co k ++ fld3 sb so bb bo cb co k
theorem tailF_len (sb so bb bo cb co : Nat) : ∀ k, (tailF sb so bb bo cb co k).length = 3 * k
  | 0 => rfl
  | k + 1 => by rw [tailF, List.length_append, tailF_len sb so bb bo cb co k]; simp [fld3]; omega
def fld3C (sb so bb bo cb co k : Nat) : Array Value := #[.pointer (some ⟨sb, so + k, none⟩), .int .i64 1, .pointer (some ⟨bb, bo + k, none⟩), .int .i64 6, .pointer (some ⟨cb, co + k, none⟩), .int .i64 1]
set_option maxRecDepth 100000 in
set_option maxHeartbeats 4000000 in
theorem tail_any (p sb so bb bo cb co n c1 c2 c3 : Nat) (va vb vc : Option Addr) (w : World) (hp : p < w.heap.size) (hn : n ≤ 100)
    (h6 : w.cell? ⟨p, 6, none⟩ = some (.slice va n c1)) (h7 : w.cell? ⟨p, 7, none⟩ = some (.slice vb n c2)) (h8 : w.cell? ⟨p, 8, none⟩ = some (.slice vc n c3))
    (ha : 0 < n → va = some ⟨sb, so, none⟩) (hb : 0 < n → vb = some ⟨bb, bo, none⟩) (hc : 0 < n → vc = some ⟨cb, co, none⟩) :
    Calls Tryd.prog 29 #[.pointer (some ⟨p, 0, none⟩)] w fun e w' => ∃ v, e = .returned v ∧ OwnE fieldE w' w.heap.size 61 v (tailF sb so bb bo cb co n) ∧ Below w.heap.size w w' := by
  go_enter Tryd.func29, Tryd.ntmps29
  go_wp2_with (fail)
  go_loopw [3, 10] (fun v t wr => ∃ k : Nat, k ≤ n ∧ t = .int .i64 (k : Int) ∧ OwnE fieldE wr w.heap.size 61 v (tailF sb so bb bo cb co k) ∧ Below w.heap.size w wr) (fun _ t _ => n - (intOf t).toNat)
  case atStart => exact ⟨0, by omega, rfl, OwnE.nil _ _ _ _, Below.refl _ _⟩
  case round =>
    rename Value => v
    obtain ⟨k, hk, rfl, ho, hB⟩ := hrel
    rename World => wr
    have hBs := hB.size
    by_cases hlt : k < n
    · have x1 : (k : Int) < (n : Int) := by omega
      obtain rfl := ha (by omega)
      obtain rfl := hb (by omega)
      obtain rfl := hc (by omega)
      have d6 : wr.cell? ⟨p, 6, none⟩ = _ := (hB.cell (p := ⟨p, 6, none⟩) hp).trans h6
      have d7 : wr.cell? ⟨p, 7, none⟩ = _ := (hB.cell (p := ⟨p, 7, none⟩) hp).trans h7
      have d8 : wr.cell? ⟨p, 8, none⟩ = _ := (hB.cell (p := ⟨p, 8, none⟩) hp).trans h8
      obtain ⟨ii, hi, hz0, hz1, hz2⟩ := info_parts Tryd.infoF
      have oL := OwnE.lit fieldE wr 61 (fld3 sb so bb bo cb co k) (fld3C sb so bb bo cb co k) rfl (by unfold maxLen; exact Nat.le_of_ble_eq_true rfl)
      unfold fld3C at oL
      have o2 := ho.alloc (.cells (fld3C sb so bb bo cb co k) 61)
      unfold fld3C at o2
      have hlen := tailF_len sb so bb bo cb co k
      have hlen3 : (fld3 sb so bb bo cb co k).length = 3 := rfl
      obtain ⟨v', w', hap, o', b', _⟩ := OwnE.pushAll (P := Tryd.prog) (S := 57) Tryd.underlying57 hi hz0 hz1 hz2 rfl o2.drew oL.drew.reads (by simp; omega) (by omega) (by omega)
      have oH := Lib.hid o'
      have hB3 := Lib.hid ((((hB.alloc hBs (.cells (fld3C sb so bb bo cb co k) 61))).drew).trans b')
      unfold fld3C at hB3
      clear oL o2 ho o' b' h6 h7 h8
      rw [hlen3] at hap
      go_wp2_with (fail)
      go_region_law (refine step_append_run hap _ _ rfl rfl rfl (by simp [Act.eval, Act.put]) (by simp [Act.eval, Act.put]) ?_)
      all_goals
        go_wp2_with (fail)
        go_roundw
        case rel => exact ⟨k + 1, by omega, by go_num, oH.out, hB3.out⟩
        case measure => simp [intOf]; omega
    · have x1 : ¬ ((k : Int) < (n : Int)) := by omega
      obtain rfl : k = n := by omega
      go_wp2_with (fail)
      go_ret
      exact ⟨_, rfl, ho, hB⟩
end Go.Proofs.YtaopknddpagjeaaDoor
