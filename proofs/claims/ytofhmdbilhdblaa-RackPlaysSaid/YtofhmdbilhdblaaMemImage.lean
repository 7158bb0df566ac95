/- member: Image. -/
import Derived.Test.YtofhmdbilhdblaaMemBlank
namespace Go.Proofs.Ytofhmdbilhdblaa
open Go.RowKit
set_option linter.unusedVariables false
set_option linter.unusedSimpArgs false
set_option maxRecDepth 100000

theorem image_dead {w : World} {S : Nat → Prop} {m g bp cap : Nat} {L : List ByteArray} {V : Int → List ByteArray} {F : Int → Value} (h : PBox w S m g bp cap true L V F) :
    Calls Try.prog 35 #[.pointer (some ⟨m, 0, none⟩)] w fun e w' => e = .returned (.slice none 0 0) ∧ w = w' := by
  have c0 := h.c0
  clear h
  go_enter Try.func35, Try.ntmps35
  go_wp2
  go_ret
  exact ⟨rfl, rfl⟩
theorem str_isI : ∃ i, Try.prog.info? 9 = some i ∧ i.zero = some (.string ⟨#[]⟩) ∧ i.size = 1 ∧ i.bytes = 16 := (cont_gen (P := Try.prog) (t := 9) (c := .string ⟨#[]⟩) (n := 1) (k := 16) (by kernel_rfl)).2
/-- What lasts, as far as it has been told. -/
def imS (L : List ByteArray) (k : Nat) : List Value := (List.range L.length).map fun j => if j < k then .string (L.getD j zero128) else .string ⟨#[]⟩
theorem imS_len (L : List ByteArray) (k : Nat) : (imS L k).length = L.length := by simp [imS]
theorem imS_zero (L : List ByteArray) : imS L 0 = List.replicate L.length (.string ⟨#[]⟩) := by
  unfold imS
  apply List.ext_getElem?
  intro j
  rw [List.getElem?_replicate]
  by_cases h : j < L.length
  · rw [if_pos h, List.getElem?_map, List.getElem?_range h]; rfl
  · rw [if_neg h, List.getElem?_eq_none (by simp; omega)]
theorem imS_all (L : List ByteArray) : imS L L.length = L.map .string := by
  unfold imS
  apply List.ext_getElem?
  intro j
  by_cases h : j < L.length
  · rw [List.getElem?_map, List.getElem?_range h, List.getElem?_map, List.getElem?_eq_getElem h, Option.map_some, Option.map_some, if_pos h, List.getD_eq_getElem?_getD, List.getElem?_eq_getElem h]; rfl
  · rw [List.getElem?_eq_none (by simp; omega), List.getElem?_eq_none (by simp; omega)]
theorem imS_set (L : List ByteArray) (k : Nat) (h : k < L.length) : (imS L k).set k (.string (L.getD k zero128)) = imS L (k + 1) := by
  unfold imS
  apply List.ext_getElem?
  intro j
  rw [List.getElem?_set]
  by_cases e : k = j
  · subst e
    rw [if_pos rfl, if_pos (by simp; omega), List.getElem?_map, List.getElem?_range h, Option.map_some, if_pos (by omega)]
  · rw [if_neg e]
    by_cases hj : j < L.length
    · rw [List.getElem?_map, List.getElem?_range hj, List.getElem?_map, List.getElem?_range hj, Option.map_some, Option.map_some]
      congr 1
      by_cases h3 : j < k
      · rw [if_pos h3, if_pos (by omega)]
      · rw [if_neg h3, if_neg (by omega)]
    · rw [List.getElem?_eq_none (by simp; omega), List.getElem?_eq_none (by simp; omega)]
/-- What lasts, in a slice of the call's own. -/
def GivesI (w : World) (L : List ByteArray) (e : Ending) (w' : World) : Prop := ∃ x, e = .returned (.slice (some ⟨x, 0, none⟩) L.length L.length) ∧ Below w.heap.size w w' ∧ Own w' w.heap.size 9 (.slice (some ⟨x, 0, none⟩) L.length L.length) (L.map .string)
set_option maxRecDepth 100000 in
set_option maxHeartbeats 2000000 in
theorem image_any {w : World} {S : Nat → Prop} {m g bp cap : Nat} {L : List ByteArray} {V : Int → List ByteArray} {F : Int → Value} (h : PBox w S m g bp cap false L V F) :
    Calls Try.prog 35 #[.pointer (some ⟨m, 0, none⟩)] w (GivesI w L) := by
  have c0 := h.c0
  have c1 := h.c1
  have hn1 := h.n1
  have hn2 := h.n2
  obtain ⟨si, s1, s2, s3, s4⟩ := str_isI
  obtain ⟨w1, hmk, hO, hb1⟩ := Own.make_run (P := Try.prog) (T := 47) Try.underlying47 s1 s2 s3 s4 rfl w L.length (by omega) (by omega)
  obtain ⟨x, hx⟩ : ∃ x, w.heap.size = x := ⟨_, rfl⟩
  rw [hx] at hmk hO
  rw [← imS_zero] at hO
  have h1 := h.below hb1
  have c11 := h1.c1
  have hxS : ¬ S x := fun hs => by have := h.lt x hs; omega
  have hlenw : ∀ W, (Builtin.len_ #[71] 3 #[.slice (some ⟨g, 0, none⟩) L.length cap]).run Try.prog W = .ok (.int .i64 (L.length : Int)) W := fun W => by
    have := h.l.reads.len_run (P := Try.prog) Try.underlying71 3 W
    exact this
  have hz := (zero_of_info cont_zs).1
  have hlx := hx
  clear h s1 s2 s3 s4 hx
  go_enter Try.func35, Try.ntmps35
  go_wp2_with (fail)
  go_loopw [21] (fun t wr => ∃ k : Nat, k ≤ L.length ∧ t = .int .i64 (k : Int) ∧ Below w.heap.size w wr ∧ PBox wr S m g bp cap false L V F ∧ Own wr x 9 (.slice (some ⟨x, 0, none⟩) L.length L.length) (imS L k)) (fun t _ => L.length - (intOf t).toNat)
  case atStart => exact ⟨0, by omega, rfl, hb1, h1, hO⟩
  case round =>
    clear hO h1 hb1 c0 c1 c11 hmk
    obtain ⟨k, hk, rfl, hb, hB, hO⟩ := hrel
    by_cases hlt : k < L.length
    · have k1 : (k : Int) < (L.length : Int) := by omega
      obtain ⟨q, hq⟩ : ∃ q, wr.heap.size = q := ⟨_, rfl⟩
      have hld := hB.loadL hlt
      have hgd : L.getD k zero128 = L[k] := by rw [List.getD_eq_getElem?_getD, List.getElem?_eq_getElem hlt]; rfl
      obtain ⟨t, ht⟩ : ∃ t, L[k] = t := ⟨_, rfl⟩
      obtain ⟨cs, hcs⟩ : ∃ cs, contL t = cs := ⟨_, rfl⟩
      have hcl : cs.length = 128 := by rw [← hcs]; exact contL_len t
      have hsz : t.size = 128 := by rw [← ht]; exact hB.zl _ (List.getElem_mem hlt)
      rw [ht, hcs] at hld
      have hs0 : (storeCells ⟨wr.heap.size, 0, none⟩ cs.toArray.toList 0).run Try.prog (wr.alloc (.cells (contL zero128).toArray 80)) = .ok () (wr.alloc (.cells cs.toArray 80)) := by
        rw [← hcs]
        exact run_storeCells_new (P := Try.prog) wr 80 (contL zero128).toArray (contL t).toArray (cont_isa t) (by rw [cont_size, cont_size]) (cont_one t)
      have hsl : ∀ W : World, (Instr.sliceAt 80 (.pointer (some ⟨wr.heap.size, 0, none⟩)) none none none).run Try.prog W = .ok (.slice (some ⟨wr.heap.size, 0, none⟩) 128 128) W := fun W => by
        simp [Instr.sliceAt, Instr.slice, Instr.sureAddr, run_underlying cont_under, Instr.sliceBounds, Instr.sliceBound, asIntOf, asAddr]
        exact addr_at _ _ _
      have hstr : (convert 81 9 (.slice (some ⟨wr.heap.size, 0, none⟩) 128 128)).run Try.prog (wr.alloc (.cells cs.toArray 80)) = .ok (.string t) (wr.alloc (.cells cs.toArray 80)) :=
        cont_str t hsz fun j hj => by rw [World.cell?_alloc_mark, hcs]; simp
      have hba : Below wr.heap.size wr (wr.alloc (.cells cs.toArray 80)) := (Below.refl _ _).alloc (Nat.le_refl _) _
      have hO2 := hO.after hba
      have cc := hO2.cell (i := k) (by rw [imS_len]; exact hlt)
      have ff := hO2.frozen k
      have hO3 := hO2.set k (.string t)
      have hxl := hO.lt
      rw [show Value.string t = .string (L.getD k zero128) by rw [hgd, ht], imS_set L k hlt, hgd, ht] at hO3
      have hB2 := (hB.below hba).heap (w' := (wr.alloc (.cells cs.toArray 80)).setCell ⟨x, k, none⟩ (.string t)) (fun y hy => Below.heap_setCell _ _ _ _ (fun e => hxS (by have e2 : y = x := e; rw [← e2]; exact hy))) (by simp)
      have hb2 := (hb.trans (hba.mono hb.size)).setCell (p := ⟨x, k, none⟩) (by rw [hlx]; exact Nat.le_refl _) (.string t)
      have hfin := Lib.hid (And.intro hb2 (And.intro hB2 hO3))
      generalize (imS L k).getD k Value.nilFunc = old at cc
      clear hO hO2 hO3 hB hB2 hb hb2 hba hgd ht hcs hsz hlt hxl hq
      go_wp2_with (with_reducible refine wpList_load_run hld rfl _ rfl rfl ?_)
      go_roundw
      case rel => exact ⟨k + 1, by omega, by go_num, hfin.out.1, hfin.out.2.1, hfin.out.2.2⟩
      case measure => simp [intOf]; omega
    · obtain rfl : k = L.length := by omega
      rw [imS_all] at hO
      have hfin : Hid (GivesI w L (.returned (.slice (some ⟨x, 0, none⟩) L.length L.length)) wr) := Lib.hid ⟨x, rfl, hb, by rw [hlx]; exact hO⟩
      clear hO hB hb
      go_wp2_with (fail)
      go_ret
      exact hfin.out
end Go.Proofs.Ytofhmdbilhdblaa

