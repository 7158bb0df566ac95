/- Lines: MulAdd, and the document's. -/
import Derived.Test.YtcmnojflllcdfaaDoorGfRef
import Derived.Laws.IdiomStrings
import Derived.StillTailTactics
namespace Go.Proofs.YtcmnojflllcdfaaDoor
open Go.RowKit
set_option linter.unusedVariables false
set_option linter.unusedSimpArgs false

namespace Gf
/-- Place i of a line to which c times another one was added. -/
def mixAt (y : List UInt8) (c : Nat) (x : List UInt8) (i : Nat) : UInt8 :=
  if i < x.length then UInt8.ofNat ((y.getD i 0).toNat ^^^ gm c (x.getD i 0).toNat) else y.getD i 0
def mix (y : List UInt8) (c : Nat) (x : List UInt8) : List UInt8 := (List.range y.length).map (mixAt y c x)
theorem mix_length (y : List UInt8) (c : Nat) (x : List UInt8) : (mix y c x).length = y.length := by simp [mix]
theorem mix_get {y : List UInt8} {c : Nat} {x : List UInt8} {i : Nat} (h : i < (mix y c x).length) : (mix y c x)[i] = mixAt y c x i := by simp [mix]
theorem mixAt_toNat (y : List UInt8) (c : Nat) (x : List UInt8) (i : Nat) : (mixAt y c x i).toNat = if i < x.length then (y.getD i 0).toNat ^^^ gm c (x.getD i 0).toNat else (y.getD i 0).toNat := by
  unfold mixAt
  split
  · have := xor_lt (x := (y.getD i 0).toNat) (y := gm c (x.getD i 0).toNat) (UInt8.toNat_lt _) (gm_lt _ _)
    simp only [UInt8.toNat_ofNat']
    omega
  · rfl
end Gf

/-- A line as a string. -/
def lineOf (l : List UInt8) : ByteArray := ⟨l.toArray⟩
def mulAdd (y : ByteArray) (c : Nat) (x : ByteArray) : ByteArray := lineOf (Gf.mix y.data.toList c x.data.toList)

theorem Tabs.of_cells {w w' : World} (h : Tabs w) (hc : ∀ b o, b < 2 → w'.cell? ⟨b, o, none⟩ = w.cell? ⟨b, o, none⟩) : Tabs w' :=
  ⟨fun i hi => by rw [hc _ _ (by decide)]; exact h.p i hi, fun i hi => by rw [hc _ _ (by decide)]; exact h.l i hi⟩
theorem Tabs.two {w : World} (h : Tabs w) : 2 ≤ w.heap.size := by
  have h1 := World.block_lt_of_cell? w _ (h.l 0 (by decide))
  have h2 := World.block_lt_of_cell? w _ (h.p 0 (by decide))
  simp at h1 h2
  omega
theorem Tabs.below {B : Nat} {w w' : World} (h : Tabs w) (hb : Below B w w') (hB : 2 ≤ B) : Tabs w' :=
  h.of_cells fun b o hlt => hb.cell (p := ⟨b, o, none⟩) (by simp; omega)
theorem Tabs.drew {w : World} (h : Tabs w) : Tabs w.drew := h.of_cells fun b o _ => rfl

theorem Tabs.setCell {w : World} {a : Addr} (h : Tabs w) (ha : 2 ≤ a.block) (v : Value) : Tabs (w.setCell a v) := h.below ((Below.refl a.block w).setCell (Nat.le_refl _) v) ha
theorem Tabs.alloc {w : World} (h : Tabs w) (o : Obj) : Tabs (w.alloc o) := h.below ((Below.refl w.heap.size w).alloc (Nat.le_refl _) o) h.two
theorem byte_get (s : ByteArray) (k : Nat) (h : k < s.size) : s[k] = s.data.toList.getD k 0 := by
  rw [List.getD_eq_getElem?_getD, List.getElem?_eq_getElem (by simpa using h)]
  rfl

/-- The block that MulAdd fills: k places are done. -/
structure Filled (w : World) (y x : ByteArray) (c : Nat) (k : Nat) (C : Nat) (wr : World) : Prop where
  blk : ∃ cur : Array Value, wr.heap[w.heap.size]? = some (.cells cur 5 (C, C + 1)) ∧ cur.size = C ∧
    ∀ j, j < y.size → cur[j]? = some (.int .u8 (((if j < k then Gf.mixAt y.data.toList c x.data.toList j else y.data.toList.getD j 0).toNat : Nat) : Int))
  below : Below w.heap.size w wr
  room : y.size ≤ C

theorem Filled.cell {w : World} {y x : ByteArray} {c k C : Nat} {wr : World} (h : Filled w y x c k C wr) {j : Nat} (hj : j < y.size) :
    wr.cell? ⟨w.heap.size, j, none⟩ = some (.int .u8 (((if j < k then Gf.mixAt y.data.toList c x.data.toList j else y.data.toList.getD j 0).toNat : Nat) : Int)) := by
  obtain ⟨cur, hb, hC, hc⟩ := h.blk
  have := hc j hj
  simp only [World.cell?, hb]
  simpa using this
theorem Filled.frozen {w : World} {y x : ByteArray} {c k C : Nat} {wr : World} (h : Filled w y x c k C wr) {j : Nat} (hj : j < y.size) :
    wr.frozen? ⟨w.heap.size, j, none⟩ = false := by
  obtain ⟨cur, hb, hC, hc⟩ := h.blk
  have := h.room
  simp [World.frozen?, hb]
  omega
theorem Filled.drew {w : World} {y x : ByteArray} {c k C : Nat} {wr : World} (h : Filled w y x c k C wr) : Filled w y x c k C wr.drew := ⟨h.blk, h.below.drew, h.room⟩
theorem Filled.next {w : World} {y x : ByteArray} {c k C : Nat} {wr : World} (h : Filled w y x c k C wr) (hk : k < y.size) (hx : k < x.size) (v : Int)
    (hv : v = (((y.data.toList.getD k 0).toNat ^^^ Gf.gm c (x.data.toList.getD k 0).toNat : Nat) : Int)) :
    Filled w y x c (k + 1) C (wr.setCell ⟨w.heap.size, k, none⟩ (.int .u8 v)) := by
  obtain ⟨⟨cur, hb, hC, hc⟩, hbel, hroom⟩ := h
  have hlt : w.heap.size < wr.heap.size := by
    rcases Nat.lt_or_ge w.heap.size wr.heap.size with h | h
    · exact h
    · rw [Array.getElem?_eq_none h] at hb; cases hb
  refine ⟨⟨cur.setIfInBounds k (.int .u8 v), ?_, by simpa using hC, fun j hj => ?_⟩, hbel.setCell (Nat.le_refl _) _, hroom⟩
  · simp [World.setCell, Array.getElem?_modify, hb]
  · rw [Array.getElem?_setIfInBounds]
    by_cases e : k = j
    · subst e
      rw [if_pos rfl, if_pos (by omega), if_pos (by omega), hv, Gf.mixAt_toNat, if_pos (by simpa using hx)]
    · rw [if_neg e, hc j hj]
      by_cases h1 : j < k
      · rw [if_pos h1, if_pos (by omega)]
      · rw [if_neg h1, if_neg (by omega)]

theorem Filled.start (w : World) (y x : ByteArray) (c : Nat) (cap : Nat) (hcap : y.size ≤ cap) :
    Filled w y x c 0 (bytesRow y cap).size (w.drew.alloc (.cells (bytesRow y cap) 5 ((bytesRow y cap).size, (bytesRow y cap).size + 1))) := by
  refine ⟨⟨bytesRow y cap, heap_alloc_new _ _, rfl, fun j hj => ?_⟩, ((Below.refl _ _).drew).alloc (Nat.le_refl _) _, ?_⟩
  · rw [bytesRow_at y cap j hj, if_neg (by omega), ← byte_get y j hj]; rfl
  · show y.size ≤ (bytesRow y cap).size
    simp [bytesRow]
theorem Filled.back {w : World} {y x : ByteArray} {c k C : Nat} {wr : World} (h : Filled w y x c k C wr) (hk : k = min x.size y.size) (cap : Nat) :
    (convert 41 9 (.slice (some ⟨w.heap.size, 0, none⟩) y.size cap)).run Tryd.prog wr = .ok (.string (mulAdd y c x)) wr := by
  have hl : (Gf.mix y.data.toList c x.data.toList).length = y.size := by rw [Gf.mix_length]; simp
  have := run_convert_bytes_back (P := Tryd.prog) wr 41 9 5 ⟨w.heap.size, 0, none⟩ cap (Gf.mix y.data.toList c x.data.toList) Tryd.underlying41 Tryd.underlying5 Tryd.underlying9 (fun j hj => by
    rw [hl] at hj
    have hc := h.cell hj
    have ea : (⟨w.heap.size, 0, none⟩ : Addr).add j = ⟨w.heap.size, j, none⟩ := by simp [Addr.add]; intro h; exact h.symm
    rw [ea, hc, Gf.mix_get]
    congr 3
    by_cases e : j < k
    · rw [if_pos e]
    · rw [if_neg e]
      unfold Gf.mixAt
      rw [if_neg (by simp; omega)])
  rw [hl] at this
  exact this
set_option maxRecDepth 100000 in
set_option maxHeartbeats 1000000 in
theorem muladd_nat (y x : ByteArray) (c : Nat) (w : World) (ht : Tabs w) (hc : c < 256) (hy : y.size ≤ maxLen) (hx : x.size ≤ maxLen) :
    Calls Tryd.prog 31 #[.string y, .int .u8 (c : Int), .string x] w fun e w' => e = .returned (.string (mulAdd y c x)) ∧ Below w.heap.size w w' := by
  unfold maxLen at hy hx
  have hconv := run_bytes_of_string (P := Tryd.prog) w 9 41 5 y Tryd.underlying9 Tryd.underlying41 Tryd.underlying5
  have hF := Filled.start w y x c (grownCap w y.size 0 5) (grownCap_ge _ _ _ _)
  obtain ⟨w0, hw0⟩ : ∃ w0, w0 = w.drew.alloc (.cells (bytesRow y (grownCap w y.size 0 5)) 5 ((bytesRow y (grownCap w y.size 0 5)).size, (bytesRow y (grownCap w y.size 0 5)).size + 1)) := ⟨_, rfl⟩
  rw [← hw0] at hconv hF
  clear hw0
  generalize grownCap w y.size 0 5 = cap at hconv hF
  generalize (bytesRow y cap).size = C at hF
  go_enter Tryd.func31, Tryd.ntmps31
  rcases Nat.lt_or_ge y.size x.size with hxy | hxy
  all_goals
    go_wp2
    go_loopw [8, 16] (fun j i wr => ∃ k : Nat, k ≤ y.size ∧ k ≤ x.size ∧ i = .int .i64 (k : Int) ∧ Filled w y x c k C wr) (fun _ i _ => y.size - (intOf i).toNat)
    case atStart => exact ⟨0, by omega, by omega, rfl, hF⟩
    case round =>
      obtain ⟨k, hky, hkx, rfl, hFk⟩ := hrel
      by_cases hlt : k < y.size ∧ k < x.size
      · obtain ⟨h1, h2⟩ := hlt
        have h2w : 2 ≤ w.heap.size := ht.two
        have htk : Tabs wr := ht.below hFk.below ht.two
        have hcell := hFk.cell h1
        have hfr := hFk.frozen h1
        have b1 : (0 : Int) ≤ (k : Int) := by omega
        have b2 : (k : Int) < (y.size : Int) := by omega
        have b3 : (k : Int) < (x.size : Int) := by omega
        have c1 := UInt8.toNat_lt y[k]
        have c2 := UInt8.toNat_lt x[k]
        have c3 := Gf.gm_lt c (x[k]).toNat
        go_wp2
        go_region_held3 (fun w' => Tabs w') (first | assumption | exact Tabs.drew (by assumption) | exact (Tabs.setCell htk h2w _).drew)
          (first
            | (go_at_call 48; refine (mul_any _ _ _ (by assumption) (by omega) (by omega) (by omega) (by omega)).mono ?_; rintro e w' ⟨rfl, rfl⟩)
            | (go_at_call 43; refine (add_any _ _ _ (by omega) (by omega) (by omega) (by omega)).mono ?_; rintro e w' ⟨rfl, rfl⟩))
        all_goals
          go_wp2
          go_roundw
          case rel => exact ⟨k + 1, by omega, by omega, by go_num, (hFk.next h1 h2 _ (by rw [byte_get y k h1, byte_get x k h2])).drew⟩
          case measure => simp [intOf]; omega
      · have hb := hFk.back (by omega) cap
        have hbl := hFk.below
        go_wp2
        go_ret
        exact ⟨rfl, hbl⟩
theorem muladd_any (y x : ByteArray) (c : Int) (w : World) (ht : Tabs w) (h1 : 0 ≤ c) (h2 : c < 256) (hy : y.size ≤ maxLen) (hx : x.size ≤ maxLen) :
    Calls Tryd.prog 31 #[.string y, .int .u8 c, .string x] w fun e w' => e = .returned (.string (mulAdd y c.toNat x)) ∧ Below w.heap.size w w' := by
  obtain ⟨c, rfl⟩ := Int.eq_ofNat_of_zero_le h1
  exact muladd_nat y x c w ht (by omega) hy hx
end Go.Proofs.YtcmnojflllcdfaaDoor
