/- trie: what is done to one tree leaves the others. -/
import Derived.Test.YtlbjfigdocbffaaTriAwake
import Derived.Test.YtlbjfigdocbffaaTriRight
import Derived.Test.YtlbjfigdocbffaaTriPlays
namespace Go.Proofs.Ytlbjfigdocbffaa
open Go.RowKit
set_option linter.unusedVariables false
set_option linter.unusedSimpArgs false

theorem BTo.below {w w' : World} {g m rb kb tb B : Nat} (h : BTo w g m rb kb tb w') (hB : B ≤ w.heap.size) (hd : B ≤ rb ∧ B ≤ kb ∧ B ≤ tb ∧ B ≤ g ∧ B ≤ m) : Below B w w' :=
  ⟨h.b0.os, h.b0.tape, h.b0.output, h.b0.size, fun q hq => h.oth q (by omega) (by omega) (by omega) (by omega) (by omega) (by omega)⟩
section
variable {w w0 w' : World} {bk rb kb tb h g m : Nat} {u : Value} {Y : Tri.TW ByteArray} {Z : Int → Bool} {R : Nat → Nat} {G : Nat → Prop} {lv pos : Nat → Nat} {kv tv : Nat → Value}
set_option maxRecDepth 100000 in
set_option maxHeartbeats 2000000 in
theorem plays_nil (B : Bk w bk rb kb tb h g m u Y Z R G lv pos kv tv) (a : Option Addr) (c : Nat) :
    Calls Try.prog 10 #[.pointer (some ⟨bk, 0, none⟩), .slice a 0 c] w (PlaysG w bk rb kb tb h g m u) := by
  have HB := Lib.hid B
  clear B
  go_enter Try.func10, Try.ntmps10
  go_wp2_with (fail)
  go_loopw [5, 6, 7, 8, 9, 10, 11, 12, 13, 14, 15] (fun i _ _ _ _ _ _ _ _ _ _ wr => i = .int .i64 0 ∧ wr = w) (fun i _ _ _ _ _ _ _ _ _ _ _ => 0)
  case atStart => exact ⟨rfl, rfl⟩
  case round =>
    obtain ⟨rfl, rfl⟩ := hrel
    go_wp2_with (fail)
    go_ret
    exact ⟨rfl, BTo.refl _ _ _ _ _ _, _, _, _, _, _, _, _, _, HB.out⟩
/-- A script that came in. -/
theorem plays_come (B : Bk w bk rb kb tb h g m u Y Z R G lv pos kv tv) {v : Value} {L : List OpR} (hs : ReadsE opE w0 v L) (hok : ∀ p ∈ L, OpOk p) (hb : Below w0.heap.size w0 w) (hd : w0.heap.size ≤ rb ∧ w0.heap.size ≤ kb ∧ w0.heap.size ≤ tb ∧ w0.heap.size ≤ g ∧ w0.heap.size ≤ m) :
    Calls Try.prog 10 #[.pointer (some ⟨bk, 0, none⟩), v] w (PlaysG w bk rb kb tb h g m u) := by
  have hs2 := hs.below hb
  rcases hs with ⟨⟨a, c, rfl⟩, rfl⟩ | ⟨b, off, cap, rfl, h2, _⟩
  · exact plays_nil B a c
  · exact plays_any B _ L hs2 hok fun q hq => by
      have e : b = q := by simpa [Value.ownBlock] using hq
      subst e
      omega
end
set_option maxRecDepth 100000 in
set_option maxHeartbeats 2000000 in
theorem tmap_walk (v0 v1 : Value) (l0 l1 : List OpR) (W : World) (R0 : ReadsE opE W v0 l0) (F0 : ∀ p ∈ l0, OpOk p) (R1 : ReadsE opE W v1 l1) (F1 : ∀ p ∈ l1, OpOk p) :
    Calls Try.prog 3 #[v0, v1] W fun e w' => e = .returned (.bool true) ∧ Below W.heap.size W w' := by
  have ca := awake_any W
  have HR0 := Lib.hid R0
  have HR1 := Lib.hid R1
  have HF0 := Lib.hid F0
  have HF1 := Lib.hid F1
  clear R0 R1 F0 F1
  go_enter Try.func3, Try.ntmps3
  go_wp2_with (fail)
  refine ca.mono ?_
  rintro e w1 ⟨rfl, b1⟩
  have cb := begins_any w1
  have s1 := b1.size
  go_wp2_with (fail)
  refine cb.mono ?_
  rintro e w2 ⟨bk, rb, kb, tb, h, g, m, u, Y, Z, R, G, lv, pos, kv, tv, rfl, B2, b2, hd, _, _⟩
  have hd0 : W.heap.size ≤ rb ∧ W.heap.size ≤ kb ∧ W.heap.size ≤ tb ∧ W.heap.size ≤ g ∧ W.heap.size ≤ m := by omega
  have b12 : Below W.heap.size W w2 := b1.trans (b2.mono s1)
  have s2 := b12.size
  have cp := plays_come B2 HR0.out HF0.out b12 hd0
  have H2 := Lib.hid b12
  clear b12 ca cb b1 b2
  go_wp2_with (fail)
  refine cp.mono ?_
  rintro e w3 ⟨rfl, T3, Y3, Z3, R3, G3, lv3, pos3, kv3, tv3, B3⟩
  have H3 := Lib.hid (H2.out.trans (T3.below s2 hd0))
  have cr := right_any B3
  have HB3 := Lib.hid B3
  clear B2 B3 T3 cp
  go_wp2_with (fail)
  refine cr.mono ?_
  rintro e w4 ⟨rfl, b4⟩
  have b14 := H3.out.trans (b4.mono H3.out.size)
  have B4 := HB3.out.below b4
  have cp2 := plays_come B4 HR1.out HF1.out b14 hd0
  have H4 := Lib.hid b14
  clear cr b4 B4 b14
  go_wp2_with (fail)
  refine cp2.mono ?_
  rintro e w5 ⟨rfl, T5, Y5, Z5, R5, G5, lv5, pos5, kv5, tv5, B5⟩
  have H5 := Lib.hid (H4.out.trans (T5.below H4.out.size hd0))
  have cr := right_any B5
  clear T5 cp2 B5
  go_wp2_with (fail)
  refine cr.mono ?_
  rintro e w6 ⟨rfl, b6⟩
  have H6 := Lib.hid (H5.out.trans (b6.mono H5.out.size))
  clear b6 cr
  go_wp2_with (fail)
  go_ret
  exact ⟨rfl, H6.out⟩
end Go.Proofs.Ytlbjfigdocbffaa
