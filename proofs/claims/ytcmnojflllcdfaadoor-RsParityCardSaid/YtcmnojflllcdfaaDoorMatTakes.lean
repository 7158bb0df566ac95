/- mat: some of n things, each once. -/
import Derived.Test.YtcmnojflllcdfaaDoorMatLaw5
namespace Go.Proofs.YtcmnojflllcdfaaDoor
open Go.RowKit
set_option linter.unusedVariables false
set_option linter.unusedSimpArgs false

theorem Tryd.infoI : (Tryd.prog.info? 3).map (fun i => (i.zero, i.size, i.bytes)) = some (some (.int .i64 0), 1, 8) := by kernel_rfl
def iv (l : List Int) : List Value := l.map (.int .i64)
def nv (l : List Nat) : List Value := l.map fun (x : Nat) => Value.int .i64 ((x : Nat) : Int)
theorem iv_getD (l : List Int) {i : Nat} (h : i < l.length) : (iv l).getD i .nilFunc = .int .i64 (l.getD i 0) := by
  simp [iv, List.getD_eq_getElem?_getD, h]
theorem nv_getD (l : List Nat) {i : Nat} (h : i < l.length) : (nv l).getD i .nilFunc = .int .i64 ((l.getD i 0 : Nat) : Int) := by
  simp [nv, List.getD_eq_getElem?_getD, h]
theorem iv_length (l : List Int) : (iv l).length = l.length := by simp [iv]
theorem nv_length (l : List Nat) : (nv l).length = l.length := by simp [nv]
theorem nv_snoc (l : List Nat) (x : Nat) : nv (l ++ [x]) = nv l ++ [.int .i64 (x : Int)] := by simp [nv]
def capOk : Value → Prop
  | .slice _ l c => l ≤ c
  | _ => True
/-- The first m of a slice. -/
theorem Reads.to_run {P : Program} {T E : TypeId} {i : TypeInfo} (hT : P.underlying T = some (.slice E)) (hi : P.info? E = some i) (hs : i.size = 1) {w : World} {v : Value} {xs : List Value} (h : Reads w v xs) (hc : capOk v) {m : Nat} (hm : m ≤ xs.length) :
    ∃ v2, (∀ W, (Instr.slice T v none (some (.int .i64 (m : Int))) none).run P W = .ok v2 W) ∧ Reads w v2 (xs.take m) := by
  rcases h with ⟨rfl, rfl⟩ | ⟨b, off, cap, rfl, hb, hx⟩
  · have : m = 0 := by simpa using hm
    subst this
    exact ⟨.slice none 0 0, fun W => by simp [Instr.slice, run_underlying hT, Instr.sliceBounds, Instr.sliceBound, asIntOf, sizeOf, typeInfo, hi], .inl ⟨rfl, rfl⟩⟩
  · have hc' : xs.length ≤ cap := hc
    refine ⟨.slice (some ⟨b, off, none⟩) m cap, fun W => ?_, .inr ⟨b, off, cap, by simp [Nat.min_eq_left hm], hb, fun j hj => ?_⟩⟩
    · have e1 : ((m : Int) ≤ (cap : Int)) := by omega
      have e2 : m ≤ cap := by omega
      simp [Instr.slice, run_underlying hT, Instr.sliceBounds, Instr.sliceBound, asIntOf, sizeOf, typeInfo, hi, hs, e2, Addr.add]
    · rw [List.length_take, Nat.min_eq_left hm] at hj
      rw [hx j (by omega), List.getD_eq_getElem?_getD, List.getD_eq_getElem?_getD, List.getElem?_take, if_pos hj]
/-- Some numbers below n, each once. -/
def GivesN (w : World) (n : Nat) (e : Ending) (w' : World) : Prop :=
  ∃ v r, e = .returned v ∧ Own w' w.heap.size 3 v (nv r) ∧ r.Nodup ∧ (∀ x ∈ r, x < n) ∧ r.length ≤ 50 ∧ Below w.heap.size w w'
def hasB (r : List Nat) (x k : Nat) : Bool := decide (x ∈ r.take k)
theorem hasB_succ (r : List Nat) (x : Nat) {k : Nat} (h : k < r.length) : hasB r x (k + 1) = (hasB r x k || decide (r.getD k 0 = x)) := by
  rw [hasB, hasB, List.take_succ_eq_append_getElem h, List.getD_eq_getElem?_getD, List.getElem?_eq_getElem h]
  rw [Bool.eq_iff_iff]
  simp only [decide_eq_true_eq, Bool.or_eq_true, List.mem_append, List.mem_singleton, Option.getD_some]
  rw [eq_comm (a := x)]
end Go.Proofs.YtcmnojflllcdfaaDoor
