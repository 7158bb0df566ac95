/- The document's MulAdd: built up by append. -/
import Derived.Test.YtcmnojflllcdfaaDoorGfLine
import Derived.Laws.AppendOwn
import Derived.OwnWalk
import Derived.Laws.BytesArg
namespace Go.Proofs.YtcmnojflllcdfaaDoor
open Go.RowKit
set_option linter.unusedVariables false
set_option linter.unusedSimpArgs false

def byteVal (b : UInt8) : Value := .int .u8 ((b.toNat : Nat) : Int)
/-- What is owned as bytes is made a string. -/
theorem own_back {w : World} {B n : Nat} {v : Value} {l : List UInt8} (h : w.ownsRow B 5 1 v n (l.map byteVal)) :
    (convert 41 9 v).run Tryd.prog w = .ok (.string (lineOf l)) w := by
  obtain ⟨hl, hv⟩ := h
  have hln : l.length = n := by simpa using hl
  rcases hv with ⟨rfl, h0⟩ | ⟨g, cap, cur, rfl, hb, hg, hn, hm, hs, ht⟩
  · have : l = [] := by apply List.eq_nil_of_length_eq_zero; omega
    subst this
    rw [run_convert_bytes_string w 41 9 5 none 0 0 Tryd.underlying41 Tryd.underlying5 Tryd.underlying9]
    rfl
  · have := run_convert_bytes_back (P := Tryd.prog) w 41 9 5 ⟨g, 0, none⟩ cap l Tryd.underlying41 Tryd.underlying5 Tryd.underlying9 (fun j hj => by
      have ea : (⟨g, 0, none⟩ : Addr).add j = ⟨g, j, none⟩ := by simp [Addr.add]; intro h; exact h.symm
      have : cur[j]? = some (byteVal l[j]) := by
        have e := congrArg (·[j]?) ht
        simp only [List.getElem?_take, List.getElem?_map, List.getElem?_eq_getElem hj, Option.map_some] at e
        rw [if_pos (by omega)] at e
        simpa using e
      rw [ea]
      simp only [World.cell?, hg]
      simpa [byteVal] using this)
    rw [hln] at this
    exact this
theorem Tryd.info5 : (Tryd.prog.info? 5).map (fun i => (i.zero, i.size, i.bytes)) = some (some (.int .u8 0), 1, 1) := by kernel_rfl

namespace Gf
/-- The first k places. -/
def mixTo (y : List UInt8) (c : Nat) (x : List UInt8) (k : Nat) : List UInt8 := (List.range k).map (mixAt y c x)
theorem mixTo_succ (y : List UInt8) (c : Nat) (x : List UInt8) (k : Nat) : mixTo y c x (k + 1) = mixTo y c x k ++ [mixAt y c x k] := by simp [mixTo, List.range_succ]
theorem mixTo_length (y : List UInt8) (c : Nat) (x : List UInt8) (k : Nat) : (mixTo y c x k).length = k := by simp [mixTo]
theorem mixTo_all (y : List UInt8) (c : Nat) (x : List UInt8) : mixTo y c x y.length = mix y c x := rfl
end Gf

set_option maxRecDepth 100000 in
set_option maxHeartbeats 1000000 in
theorem rmuladd_nat (y x : ByteArray) (c : Nat) (w : World) (hc : c < 256) (hy : y.size ≤ 140737488351232) (hx : x.size ≤ 140737488351232) :
    Calls Tryd.prog 23 #[.string y, .int .u8 (c : Int), .string x] w fun e w' => e = .returned (.string (mulAdd y c x)) ∧ Below w.heap.size w w' := by
  obtain ⟨i0, hi, hz0, hz1, hz2⟩ := info_parts Tryd.info5
  go_enter Tryd.func23, Tryd.ntmps23
  go_wp2
  go_loopw [7, 8, 9] (fun v i b wr => ∃ k : Nat, k ≤ y.size ∧ i = .int .i64 (k : Int) ∧ wr.ownsRow w.heap.size 5 1 v k ((Gf.mixTo y.data.toList c x.data.toList k).map byteVal) ∧ Below w.heap.size w wr) (fun _ i _ _ => y.size - (intOf i).toNat)
  case atStart => exact ⟨0, by omega, rfl, World.ownsRow_nil _ _ _ _, Below.refl _ _⟩
  case round =>
    obtain ⟨k, hky, rfl, hown, hbel⟩ := hrel
    by_cases h1 : k < y.size
    · have b1 : (0 : Int) ≤ (k : Int) := by omega
      have b2 : (k : Int) < (y.size : Int) := by omega
      have c1 := UInt8.toNat_lt y[k]
      have hsz := hbel.size
      by_cases h2 : k < x.size
      · have b3 : (k : Int) < (x.size : Int) := by omega
        have c2 := UInt8.toNat_lt x[k]
        have c3 := Gf.gm_lt c (x[k]).toNat
        have hxx := xor8 (y[k].toNat : Int) (Gf.gm c (x[k]).toNat : Int) (by omega) (by omega) (by omega) (by omega)
        rw [Int.toNat_natCast, Int.toNat_natCast] at hxx
        have hv : Hid (((y[k].toNat ^^^ Gf.gm c x[k].toNat : Nat) : Int) = (((Gf.mixAt y.data.toList c x.data.toList k).toNat : Nat) : Int)) := Lib.hid (by
          rw [Gf.mixAt_toNat, if_pos (by simpa using h2), byte_get y k h1, byte_get x k h2])
        go_wp2_with (first
          | (go_at_call 38; refine (rmul_any _ _ _ (by omega) (by omega) (by omega) (by omega)).mono ?_; rintro e w' ⟨rfl, rfl⟩)
          | (at_builtin; refine wpList_append_own _ rfl _ _ 41 rfl w.heap.size 5 i0 (.int .u8 0) 1 1 Tryd.underlying41 hi hz0 hz1 hz2 rfl (by decide) _ _ _ rfl (hown.alloc _) ⟨wr.heap.size, 0, none⟩ 1 1 [.int .u8 ((y[k].toNat ^^^ Gf.gm c x[k].toNat : Nat) : Int)] rfl rfl ?c1 ?c2 ?c3 ?c4 ?c5 ?_))
        case c1 =>
          intro j u hj
          match j, hj with
          | 0, hj => simp at hj; subst hj; simp [Addr.add]
        case c2 => intro u hu; simp at hu; subst hu; rfl
        case c3 => unfold maxLen; omega
        case c4 => omega
        case c5 => simp; omega
        · intro v' w1 hown' hgrow _
          rw [hv.out] at hown'
          have hown2 : w1.ownsRow w.heap.size 5 1 v' (k + 1) ((Gf.mixTo y.data.toList c x.data.toList (k + 1)).map byteVal) := by
            rw [Gf.mixTo_succ, List.map_append]; exact hown'
          have hb2 : Below w.heap.size w w1 := ((hbel.alloc (by omega) _)).grown hgrow (by simp; omega) (fun q hq => (hown.lt q hq).1)
          clear hown' hgrow
          go_wp2
          go_roundw
          case rel => exact ⟨k + 1, by omega, by go_num, hown2, hb2⟩
          case measure => simp [intOf]; omega
      · have hv : Hid (((y[k].toNat : Nat) : Int) = (((Gf.mixAt y.data.toList c x.data.toList k).toNat : Nat) : Int)) := Lib.hid (by
          rw [Gf.mixAt_toNat, if_neg (by simpa using h2), byte_get y k h1])
        go_wp2_with (at_builtin; refine wpList_append_own _ rfl _ _ 41 rfl w.heap.size 5 i0 (.int .u8 0) 1 1 Tryd.underlying41 hi hz0 hz1 hz2 rfl (by decide) _ _ _ rfl (hown.alloc _) ⟨wr.heap.size, 0, none⟩ 1 1 [.int .u8 ((y[k].toNat : Nat) : Int)] rfl rfl ?c1 ?c2 ?c3 ?c4 ?c5 ?_)
        case c1 =>
          intro j u hj
          match j, hj with
          | 0, hj => simp at hj; subst hj; simp [Addr.add]
        case c2 => intro u hu; simp at hu; subst hu; rfl
        case c3 => unfold maxLen; omega
        case c4 => omega
        case c5 => simp; omega
        · intro v' w1 hown' hgrow _
          rw [hv.out] at hown'
          have hown2 : w1.ownsRow w.heap.size 5 1 v' (k + 1) ((Gf.mixTo y.data.toList c x.data.toList (k + 1)).map byteVal) := by
            rw [Gf.mixTo_succ, List.map_append]; exact hown'
          have hb2 : Below w.heap.size w w1 := ((hbel.alloc (by omega) _)).grown hgrow (by simp; omega) (fun q hq => (hown.lt q hq).1)
          clear hown' hgrow
          go_wp2
          go_roundw
          case rel => exact ⟨k + 1, by omega, by go_num, hown2, hb2⟩
          case measure => simp [intOf]; omega
    · obtain rfl : k = y.size := by omega
      have hown2 : wr.ownsRow w.heap.size 5 1 u7 y.size ((Gf.mix y.data.toList c x.data.toList).map byteVal) := by
        rw [← Gf.mixTo_all]; simpa using hown
      have hb := own_back hown2
      clear hown hown2
      go_wp2
      go_ret
      exact ⟨rfl, hbel⟩
theorem rmuladd_any (y x : ByteArray) (c : Int) (w : World) (h1 : 0 ≤ c) (h2 : c < 256) (hy : y.size ≤ 140737488351232) (hx : x.size ≤ 140737488351232) :
    Calls Tryd.prog 23 #[.string y, .int .u8 c, .string x] w fun e w' => e = .returned (.string (mulAdd y c.toNat x)) ∧ Below w.heap.size w w' := by
  obtain ⟨c, rfl⟩ := Int.eq_ofNat_of_zero_le h1
  exact rmuladd_nat y x c w (by omega) hy hx
end Go.Proofs.YtcmnojflllcdfaaDoor
