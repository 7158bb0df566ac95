/- journal: a Put to all slots. -/
import Derived.Test.YtfadglcpapiklaaGreatDoorJrnHead
import Derived.Test.YtfadglcpapiklaaGreatDoorLrack
namespace Go.Proofs.YtfadglcpapiklaaGreatDoor
open Go.RowKit
open Rc
set_option linter.unusedVariables false
set_option linter.unusedSimpArgs false
set_option maxRecDepth 100000

theorem RW.bx {w wr : World} {S : Nat → Prop} {ka n g b : Nat} {K M B q : Int} {v : Value} {l : List St} {R : Rk} (h : RW w S wr ka n g b K M B q v l R) : wr.heap[g]? = some (.cells #[.int .i64 K, .int .i64 M, .int .i64 B] 23 (0, 0)) ∧ wr.cell? ⟨b, 0, none⟩ = some (.int .i64 q) ∧ wr.cell? ⟨b, 1, none⟩ = some v := ⟨h.jw.gb, h.rb.c0, h.rb.c1⟩
theorem rec_load {W : World} {b : Nat} {q : Int} {a : Option Addr} {n c : Nat} (h0 : W.cell? ⟨b, 0, none⟩ = some (.int .i64 q)) (h1 : W.cell? ⟨b, 1, none⟩ = some (.slice a n c)) : (Instr.loadAt 30 (.pointer (some ⟨b, 0, none⟩))).run Tryz.prog W = .ok (.agg #[.int .i64 q, .slice a n c]) W := by
  have hT : ∀ W, (isAgg 30).run Tryz.prog W = .ok true W := fun W => by kernel_rfl
  have hz : ∀ W, (sizeOf 30).run Tryz.prog W = .ok 2 W := fun W => by kernel_rfl
  have ha0 : (⟨b, 0, none⟩ : Addr).add 0 = ⟨b, 0, none⟩ := by simp [Addr.add]
  have ha1 : (⟨b, 0, none⟩ : Addr).add 1 = ⟨b, 1, none⟩ := by simp [Addr.add]
  simp [go_sem, Instr.loadAt, Instr.sureAddr, asAddr, loadVar, hT W, hz W, h0, h1, ha0, ha1]
/-- A Put to all slots of a rack none of whose members has failed. -/
theorem dead_nil {n : Nat} {R : Rk} (h : ∀ j, j < n → (R.M j).fd = false) : deadL R (allL n) = [] := List.filter_eq_nil_iff.2 fun x hx => by
  obtain ⟨h0, h3⟩ := allL_mem.1 hx
  obtain ⟨j, rfl⟩ := Int.eq_ofNat_of_zero_le h0
  rw [Int.toNat_natCast, h j (by omega)]
  simp
theorem put_all {n sec k m c ka g b : Nat} {w wr : World} {S : Nat → Prop} {R : Rk} {B q : Int} {va : Option Addr} {vc : Nat} {l : List St} (hG : Gm n sec k m B) (hU : Up n sec R) (hr : rightB (k : Int) (m : Int) B q l = true) (hf : ∀ j, j < n → (R.M j).fd = false) (hK : ROk n R c) (hc : c ≤ 900000000000) (hl : l.length ≤ 1000) (X : RW w S wr ka n g b (k : Int) (m : Int) B q (.slice va l.length vc) l R) :
    ∃ R', PutTo n sec k 9 q l (allL n) R R' ∧ ROk n R' (c + 1792) ∧ ∀ W u, Below wr.heap.size wr W → LsN W S u (allL n) → capOk u → Calls Tryz.prog 13 #[.pointer (some ⟨ka, 0, none⟩), .int .i64 9, .agg #[.int .i64 (k : Int), .int .i64 (m : Int), .int .i64 B], u, .agg #[.int .i64 q, .slice va l.length vc]] W (EDoes w S W ka n (R', [], 0)) := by
  have h7 := hG.rng
  have hq := (right_g hr).2
  obtain ⟨R', hPu, hPT⟩ := put_to (i := 9) hG hU hr (by omega) (by omega) (fun x hx => allL_mem.1 hx) allL_nodup
  have hK' := put_ok (id := ((9 : Nat) : Int)) (K := (k : Int)) (M := (m : Int)) (B := B) (q := q) (ss := l) (l := allL n) hK
  rw [hPu, allL_len] at hK'
  refine ⟨R', hPT, hK'.le (by omega), fun W u hW hu hcap => ?_⟩
  have XW := X.after hW
  have := put_law (sec := sec) (i := 9) XW.jw.ra hK hc hu hcap (by rw [allL_len]; omega) XW.rl.r (by omega) (by omega) hPu
  rw [dead_nil hf] at this
  exact this
theorem put_alive {n sec k i : Nat} {R R' : Rk} {q : Int} {ss : List St} (h : PutTo n sec k i q ss (allL n) R R') (hf : ∀ j, j < n → (R.M j).fd = false) : ∀ j, j < n → (R'.M j).fd = false := fun j hj => (h.bay j hj (allL_mem.2 (by omega)) (hf j hj)).1.al
theorem rok_up {n : Nat} {R : Rk} {b : Nat} (h : ROk n R b) (s : Int) (f : Mst → Mst) (hf : ∀ M, Vn M b → Vn (f M) b) : ROk n (upR n R s f) b := by
  unfold upR
  split
  · rename_i he
    obtain ⟨i, rfl, hi⟩ := hasK_is he
    refine ⟨h.1, h.2.1, upd_vn h.2.2 ?_⟩
    rw [Int.toNat_natCast]
    exact hf _ (h.2.2 i hi)
  · exact h
section
variable {w w' : World} {B j : Nat} {S S' : Nat → Prop} {v : Value} {X : Nat → Value} {D : Nat → List ByteArray}
/-- One more row is appended. -/
theorem Was.pushG (h : Was w B S j v X D) (hB : B ≤ w.heap.size) (hj : j ≤ 1000) {x n cc : Nat} {l : List ByteArray} {w2 : World} (hb2 : Below w.heap.size w w2) (ho : Own w2 w.heap.size 9 (.slice (some ⟨x, 0, none⟩) n cc) (l.map .string)) (hS : ∀ b, S b → b < w.heap.size) :
    ∃ v' w3, (∃ a n c, v' = .slice a n c) ∧ (Builtin.append_ #[53, 53] 53 #[v, .slice (some ⟨w2.heap.size, 0, none⟩) 1 1]).run Tryz.prog (w2.alloc (.cells #[.slice (some ⟨x, 0, none⟩) n cc] 54)) = .ok v' w3 ∧
      Was w3 B S (j + 1) v' (upd X j (.slice (some ⟨x, 0, none⟩) n cc)) (upd D j l) ∧ Below B w2 w3 ∧ ∀ b, S b → w3.heap[b]? = w2.heap[b]? := by
  obtain ⟨si, s1, s2, s3, s4⟩ := strs_is9
  have h2 := h.after hb2
  have hsz := hb2.size
  obtain ⟨v', w3, hap, ho3, hb3, hk, hv⟩ := Own.pushA (P := Tryz.prog) (T := 53) Tryz.underlying53 s1 s2 s3 s4 rfl h2.o (.slice (some ⟨x, 0, none⟩) n cc) rfl (by omega) (by rw [rowV_len]; omega) (by rw [rowV_len]; omega)
  obtain ⟨gv, cv, ev, _, _⟩ := ho3.form (by simp)
  have hxw : w.heap.size ≤ x ∧ x < w2.heap.size := ho.lt
  have xv : Apart (.slice (some ⟨x, 0, none⟩) n cc) v := fun b hb e => by
    have e1 : x = b := by simpa [Value.ownBlock] using hb
    have := (h.o.o.lt b e).2; omega
  have vnew : ∀ b, v'.ownBlock = some b → v.ownBlock = some b ∨ b = w2.heap.size + 1 := fun b e => by
    rcases hv with z | z
    · exact .inl (by rw [← z]; exact e)
    · rw [z] at e; injection e with e; exact .inr e.symm
  refine ⟨v', w3, ⟨_, _, _, ev⟩, hap, ⟨?_, fun i hi => ?_, fun i hi => ?_, fun b hb => ?_, fun i hi b hb => ?_⟩, hb3, fun b hb => hk b (Nat.lt_of_lt_of_le (hS b hb) hsz) (fun e => h.sv b e hb)⟩
  · have e : rowV j X ++ [.slice (some ⟨x, 0, none⟩) n cc] = rowV (j + 1) (upd X j (.slice (some ⟨x, 0, none⟩) n cc)) := by
      unfold rowV
      rw [List.range_succ, List.map_append]
      congr 1
      · apply List.map_congr_left
        intro i hi
        have := List.mem_range.1 hi
        rw [upd_other _ _ _ _ (by omega)]
      · simp [upd]
    rw [← e]; exact ho3
  · by_cases e : i = j
    · subst e
      rw [upd_same, upd_same]
      exact (ho.mono hB).kept hk xv
    · rw [upd_other _ _ _ _ e, upd_other _ _ _ _ e]
      exact (h2.r i (by omega)).kept hk (h.a i (by omega))
  · by_cases e : i = j
    · subst e
      rw [upd_same]
      exact Apart.push ho xv hv
    · rw [upd_other _ _ _ _ e]
      exact Apart.push (h2.r i (by omega)) (h.a i (by omega)) hv
  · rcases vnew b hb with z | z
    · exact h.sv b z
    · exact fun hs => by have := hS b hs; omega
  · by_cases e : i = j
    · subst e
      rw [upd_same] at hb
      have e1 : x = b := by simpa [Value.ownBlock] using hb
      exact fun hs => by have := hS b hs; omega
    · rw [upd_other _ _ _ _ e] at hb; exact h.sx i (by omega) b hb
end
end Go.Proofs.YtfadglcpapiklaaGreatDoor
