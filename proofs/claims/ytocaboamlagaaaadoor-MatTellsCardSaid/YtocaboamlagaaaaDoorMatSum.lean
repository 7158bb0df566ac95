/- mat: two matrices, element by element. -/
import Derived.Test.YtocaboamlagaaaaDoorMatLaw2
import Derived.Test.YtocaboamlagaaaaDoorMRow
namespace Go.Proofs.YtocaboamlagaaaaDoor
open Go.RowKit
set_option linter.unusedVariables false
set_option linter.unusedSimpArgs false

def bu (s : ByteArray) (j : Nat) : UInt8 := s.data[j]?.getD 0
theorem bu_toNat (s : ByteArray) (j : Nat) : (bu s j).toNat = bt s j := rfl
def xorEl (a b : List ByteArray) (i j : Nat) : UInt8 := UInt8.ofNat (bt (a.getD i ⟨#[]⟩) j ^^^ bt (b.getD i ⟨#[]⟩) j)
theorem xorEl_toNat (a b : List ByteArray) (i j : Nat) : (xorEl a b i j).toNat = bt (a.getD i ⟨#[]⟩) j ^^^ bt (b.getD i ⟨#[]⟩) j := by
  have := Gf.xor_lt (bt_lt (a.getD i ⟨#[]⟩) j) (bt_lt (b.getD i ⟨#[]⟩) j)
  rw [xorEl, UInt8.toNat_ofNat']; omega
def sumL (a b : List ByteArray) (m n : Nat) : List ByteArray := mkM (xorEl a b) m n
theorem sumL_rect (a b : List ByteArray) (m n : Nat) : Rect (sumL a b m n) m n := mkM_rect _ _ _
theorem sumL_el (a b : List ByteArray) {m n i j : Nat} (hi : i < m) (hj : j < n) : el (sumL a b m n) i j = el a i j + el b i j := by
  apply Mx.F.ext
  rw [sumL, mkM_el _ hi hj, xorEl_toNat]; rfl
/-- The first k bytes of a row, changed. -/
def chTo (f : Nat → UInt8) (l : List UInt8) (k : Nat) : List UInt8 := (List.range k).map f ++ l.drop k
theorem chTo_length (f : Nat → UInt8) (l : List UInt8) {k : Nat} (h : k ≤ l.length) : (chTo f l k).length = l.length := by simp [chTo]; omega
theorem chTo_zero (f : Nat → UInt8) (l : List UInt8) : chTo f l 0 = l := by simp [chTo]
theorem chTo_all (f : Nat → UInt8) (l : List UInt8) : chTo f l l.length = (List.range l.length).map f := by simp [chTo]
theorem chTo_at (f : Nat → UInt8) (l : List UInt8) {k : Nat} (h : k < l.length) : (chTo f l k).getD k 0 = l.getD k 0 := by
  simp only [chTo, List.getD_eq_getElem?_getD]
  rw [List.getElem?_append_right (by simp)]
  simp
theorem chTo_succ (f : Nat → UInt8) (l : List UInt8) {k : Nat} (h : k < l.length) : chTo f l (k + 1) = (chTo f l k).set k (f k) := by
  apply List.ext_getElem
  · rw [List.length_set, chTo_length _ _ (by omega), chTo_length _ _ (by omega)]
  · intro j h1 h2
    rw [chTo_length _ _ (by omega)] at h1
    rw [List.getElem_set]
    simp only [chTo, List.getElem_append, List.length_map, List.length_range, List.getElem_map, List.getElem_range, List.getElem_drop]
    by_cases e : k = j
    · subst e; rw [if_pos rfl, dif_pos (by omega)]
    · rw [if_neg e]
      by_cases e2 : j < k
      · rw [dif_pos (by omega), dif_pos e2]
      · rw [dif_neg (by omega), dif_neg e2]
        congr 1; omega
set_option maxRecDepth 100000 in
set_option maxHeartbeats 2000000 in
theorem sum_any (va vb : Value) (a b : List ByteArray) (n : Nat) (w : World) (hA : Reads w va (tx a)) (hB : Reads w vb (tx b)) (ra : Rect a n n) (rb : Rect b n n) (h1 : 1 ≤ n) (h2 : n ≤ 16) :
    Calls Tryd.prog 27 #[va, vb] w (GivesT w (sumL a b n n)) := by
  have hla := ra.l
  have hlb := rb.l
  rcases hA.srow with ⟨_, rfl⟩ | ⟨ba, oa, ca, rfl, hSa⟩
  · simp at hla; omega
  rcases hB.srow with ⟨_, rfl⟩ | ⟨bb, ob, cb, rfl, hSb⟩
  · simp at hlb; omega
  obtain ⟨i0, hi, hz0, hz1, hz2⟩ := info_parts Tryd.infoS
  have hsa := Lib.hid ra.s
  have hsb := Lib.hid rb.s
  have hla' := Lib.hid hla
  have hlb' := Lib.hid hlb
  clear hla hlb
  go_enter Tryd.func27, Tryd.ntmps27
  go_wp2
  go_loopw [5, 6, 7, 8] (fun v i _ _ wr => ∃ k : Nat, k ≤ a.length ∧ i = .int .i64 (k : Int) ∧ Own wr w.heap.size 9 v (tx (firstL (fun i => lineOf ((List.range n).map (xorEl a b i))) k)) ∧ Below w.heap.size w wr) (fun _ i _ _ _ => a.length - (intOf i).toNat)
  case atStart => exact ⟨0, by omega, rfl, Own.nil _ _ _, Below.refl _ _⟩
  case round =>
    obtain ⟨k, hk, rfl, hown, hbel⟩ := hrel
    obtain ⟨v, rfl⟩ : ∃ v, v = u5 := ⟨_, rfl⟩
    have hkn : k ≤ n := by have := hla'.out; omega
    have han : a.length = n := hla'.out
    have han' : a.length ≤ 16 := by omega
    clear han
    by_cases hlt : k < a.length
    · have b1 : (k : Int) < (a.length : Int) := by omega
      have b1' : (k : Int) < (b.length : Int) := by have := hla'.out; have := hlb'.out; omega
      have hka : k < n := by have := hla'.out; omega
      have hnx := Lib.hid (firstL_succ (fun i => lineOf ((List.range n).map (xorEl a b i))) k)
      have hfl := firstL_length (fun i => lineOf ((List.range n).map (xorEl a b i))) k
      have hca := (hSa.below hbel).cell k hlt
      have hrs := hsa.out k hka
      have hqs := hsb.out k hka
      have hxe := fun j => xorEl_toNat a b k j
      have hcb0 := fun W (hW : Below w.heap.size w W) => (hSb.below hW).cell k (by have := hla'.out; have := hlb'.out; omega)
      have hxn : Hid (firstL (fun i => lineOf ((List.range n).map (xorEl a b i))) k = firstL (fun i => lineOf ((List.range n).map (xorEl a b i))) k) := Lib.hid rfl
      generalize xorEl a b k = X at *
      generalize firstL (fun i => lineOf ((List.range n).map (xorEl a b i))) k = done at *
      generalize a.getD k ⟨#[]⟩ = rk at *
      generalize b.getD k ⟨#[]⟩ = qk at *
      obtain ⟨cap, w2, C, hcv, hM2, hbel2, hw2⟩ := MRow.make_run wr rk
      have hrl : rk.data.toList.length = n := by rw [← hrs]; simp
      have hrk16 : rk.size ≤ 16 := by omega
      have hqk16 : n ≤ qk.size := by omega
      have hrn : rk.size ≤ n := by omega
      have hrn' : n ≤ rk.size := by omega
      clear hrs hqs hw2
      obtain ⟨wo, rfl⟩ : ∃ wo : World, wo = wr := ⟨_, rfl⟩
      go_wp2
      go_loopw [8] (fun j W => ∃ q : Nat, q ≤ rk.size ∧ j = .int .i64 (q : Int) ∧ MRow W wo.heap.size C (chTo X rk.data.toList q) ∧ Below wo.heap.size wo W) (fun j _ => rk.size - (intOf j).toNat)
      case atStart => exact ⟨0, by omega, rfl, by rw [chTo_zero]; exact hM2, hbel2⟩
      case round =>
        obtain ⟨q, hq, rfl, hMq, hbelq⟩ := hrel
        have hcl0 := chTo_length X rk.data.toList (k := q) (by omega)
        by_cases hlq : q < rk.size
        · have b2 : (q : Int) < (rk.size : Int) := by omega
          have b3 : (q : Int) < (qk.size : Int) := by omega
          have hfz := hMq.frozen (i := q) (by omega)
          have hcl := hMq.cell (i := q) (by omega)
          rw [chTo_at X rk.data.toList (by omega)] at hcl
          have hbb := hcb0 wr (hbel.trans (hbelq.mono hbel.size))
          have hbyte : (((rk.data.toList.getD q 0).toNat : Nat) : Int) = ((bt rk q : Nat) : Int) := by rw [bt_list]
          have hl1 := bt_lt rk q
          have hl2 := bt_lt qk q
          have hxx := xor8 ((bt rk q : Nat) : Int) (((qk[q]).toNat : Nat) : Int) (by omega) (by omega) (by omega) (by rw [bt_get (show q < qk.size by omega)]; omega)
          rw [Int.toNat_natCast, Int.toNat_natCast] at hxx
          rw [hbyte] at hcl
          have hnq : Hid (chTo X rk.data.toList (q + 1) = (chTo X rk.data.toList q).set q (X q)) := Lib.hid (chTo_succ X rk.data.toList (by omega))
          have hval : Hid (((bt rk q ^^^ (qk[q]).toNat : Nat) : Int) = (((X q).toNat : Nat) : Int)) := Lib.hid (by rw [hxe q, bt_get (show q < qk.size by omega)])
          clear hbyte hcv hM2 hxe
          generalize bt rk q = rb at *
          go_wp2
          go_region
          all_goals
            go_wp2
            go_roundw
            case rel => exact ⟨q + 1, by omega, by go_num, by rw [hnq.out]; exact (hMq.set (by omega) (X q) _ hval.out).drew, (hbelq.setCell (Nat.le_refl _) _).drew⟩
            case measure => simp [intOf]; omega
        · have e : q = rk.size := by omega
          subst e
          have hst := hMq.str rk.size cap (by rw [hcl0]; simp)
          rw [show rk.size = rk.data.toList.length by simp, chTo_all, show rk.data.toList.length = rk.size by simp] at hst
          have hnn : rk.size = n := by omega
          have hown3 := hown.after hbelq
          have hb3 : Below w.heap.size w wr := hbel.trans (hbelq.mono hbel.size)
          obtain ⟨v', w', hap, hown4, hb4⟩ := Own.push (P := Tryd.prog) (T := 22) Tryd.underlying22 hi hz0 hz1 hz2 rfl hown3 (.string (lineOf ((List.range rk.size).map X))) rfl hb3.size (by rw [List.length_map, hfl]; omega) (by rw [List.length_map, hfl]; omega)
          have hnn' := Lib.hid hnn
          clear hcv hM2 hnn
          go_wp2_with (at_builtin; refine wpList_append_run hap _ _ rfl rfl rfl rfl rfl ?_)
          go_roundw
          case rel => exact ⟨k + 1, by omega, by go_num, by rw [hnx.out, ← hnn'.out]; exact hown4, hb3.trans hb4⟩
          case measure => simp [intOf]; omega
    · have e : k = a.length := by omega
      subst e
      go_wp2
      go_ret
      refine ⟨v, rfl, ?_, hbel⟩
      rw [sumL, mkM, ← hla'.out]
      rw [hla'.out]
      rw [hla'.out] at hown
      exact hown
end Go.Proofs.YtocaboamlagaaaaDoor
