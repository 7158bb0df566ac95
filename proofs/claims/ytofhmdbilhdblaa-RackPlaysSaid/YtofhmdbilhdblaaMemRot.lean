/- member: Rot. -/
import Derived.Test.YtofhmdbilhdblaaMemImage
namespace Go.Proofs.Ytofhmdbilhdblaa
open Go.RowKit
set_option linter.unusedVariables false
set_option linter.unusedSimpArgs false
set_option maxRecDepth 100000

theorem xor8_lt {x y : Nat} (hx : x < 256) (hy : y < 256) : x ^^^ y < 256 := Nat.xor_lt_two_pow (n := 8) hx hy
theorem xor8m (a b : Nat) (h1 : a < 256) (h2 : b < 256) : bits .xor .u8 (a : Int) (b : Int) = ((a ^^^ b : Nat) : Int) := by
  have hl := xor8_lt h1 h2
  have e : (BitVec.ofNat 8 a ^^^ BitVec.ofNat 8 b).toNat = a ^^^ b := by
    rw [BitVec.toNat_xor, BitVec.toNat_ofNat, BitVec.toNat_ofNat, Nat.mod_eq_of_lt (by omega), Nat.mod_eq_of_lt (by omega)]
  have e2 : bits .xor .u8 (a : Int) (b : Int) = IntKind.u8.wrap (((BitVec.ofNat 8 a ^^^ BitVec.ofNat 8 b).toNat : Nat) : Int) := by
    have ea : BitVec.ofInt 8 (a : Int) = BitVec.ofNat 8 a := BitVec.ofInt_natCast 8 a
    have eb : BitVec.ofInt 8 (b : Int) = BitVec.ofNat 8 b := BitVec.ofInt_natCast 8 b
    rw [← ea, ← eb]; rfl
  rw [e2, e, IntKind.wrap_u8]
  omega
/-- A text, one byte of it turned. -/
def rotS (s : ByteArray) (j b : Nat) : ByteArray := lineOf (s.data.toList.set j (UInt8.ofNat ((s.data.toList.getD j 0).toNat ^^^ b)))
theorem rotS_size (s : ByteArray) (j b : Nat) (hs : s.size = 128) : (rotS s j b).size = 128 := by
  unfold rotS
  rw [lineOf_size, List.length_set, Array.length_toList]; exact hs
theorem rotS_cells (s : ByteArray) (j b : Nat) (hs : s.size = 128) (hj : j < 128) (hb : b < 256) (v : Int) (hv : v = (((s.data.toList.getD j 0).toNat ^^^ b : Nat) : Int)) : (contL s).set j (.int .u8 v) = contL (rotS s j b) := by
  subst hv
  have hl : s.data.toList.length = 128 := by rw [Array.length_toList]; exact hs
  apply List.ext_getElem?
  intro i
  rw [List.getElem?_set, contL_len]
  by_cases hi : i < 128
  · rw [contL_get _ _ hi, contL_get _ _ hi]
    have e : (rotS s j b).data.toList = s.data.toList.set j (UInt8.ofNat ((s.data.toList.getD j 0).toNat ^^^ b)) := by unfold rotS lineOf; simp
    rw [e]
    by_cases h : j = i
    · subst h
      rw [if_pos rfl, if_pos hi]
      congr 1
      rw [List.getD_eq_getElem?_getD (l := s.data.toList.set _ _), List.getElem?_set, if_pos rfl, if_pos (by omega)]
      have hx := xor8_lt (s.data.toList.getD j 0).toNat_lt hb
      unfold byteVal
      congr 1
      simp only [Option.getD_some, UInt8.toNat_ofNat']
      congr 1
      exact (Nat.mod_eq_of_lt hx).symm
    · rw [if_neg h, List.getD_eq_getElem?_getD, List.getD_eq_getElem?_getD, List.getElem?_set, if_neg h]
  · rw [List.getElem?_eq_none (l := contL s) (by rw [contL_len]; omega), if_neg (show ¬ j = i by omega), List.getElem?_eq_none (by rw [contL_len]; omega)]
/-- One byte that lasts is set. -/
theorem PBox.setB {w : World} {S : Nat → Prop} {m g bp cap : Nat} {fd : Bool} {L : List ByteArray} {V : Int → List ByteArray} {F : Int → Value} (h : PBox w S m g bp cap fd L V F) (i : Nat) (hi : i < L.length) (j : Nat) (hj : j < 128) (u : Value) (t : ByteArray) (ht : t.size = 128) (he : (contL L[i]).set j u = contL t) :
    PBox (w.setCell ⟨g, i * 128 + j, none⟩ u) S m g bp cap fd (L.set i t) V F ∧ Stp S S w (w.setCell ⟨g, i * 128 + j, none⟩ u) := by
  have k5 : ∀ k, k ≠ g → (w.setCell ⟨g, i * 128 + j, none⟩ u).heap[k]? = w.heap[k]? := fun k hk => Below.heap_setCell _ _ _ _ hk
  have k4 : (w.setCell ⟨g, i * 128 + j, none⟩ u).heap.size = w.heap.size := by simp
  refine ⟨⟨?_, ?_, ?_, fun z hz => (h.r z hz).sameAt fun k hk => k5 k (h.sr z hz k hk).2.2.1, h.sm, h.sg, h.sp, h.sr, h.ap, h.mg, h.mp, h.gp, fun k hk => by rw [k4]; exact h.lt k hk, ?_, ?_, ?_, ?_, h.zv⟩, ⟨⟨rfl, rfl, rfl, by omega, fun k hk => absurd hk (Nat.not_lt_zero _)⟩, fun k _ hn => k5 k (fun e => hn (e ▸ h.sg)), fun k hk => .inl hk⟩⟩
  · rw [k5 m h.mg, List.length_set]; exact h.b
  · have hn : (L.set i t).length = L.length := List.length_set
    rw [hn]
    have := h.l
    refine ⟨?_⟩
    have hs := (h.l.o.stored (i * 128 + j) u).1
    have e2 : (EC.all L).set (i * 128 + j) u = EC.all (L.set i t) := by
      apply List.ext_getElem?
      intro k
      by_cases hk : k < L.length * 128
      · have hq : k / 128 < L.length := Nat.div_lt_of_lt_mul (by rw [Nat.mul_comm]; exact hk)
        have hr : k % 128 < 128 := Nat.mod_lt _ (by omega)
        have hkk : k = k / 128 * 128 + k % 128 := by omega
        have e1 := EC.all_get (L.set i t) (k / 128) (by rw [hn]; exact hq) (k % 128) hr
        have e3 := EC.all_get L (k / 128) hq (k % 128) hr
        rw [ec_k, ← hkk] at e1 e3
        rw [e1, List.getElem?_set, EC.all_len, ec_k, e3, List.getElem_set, ec_f, ec_f]
        by_cases e : i = k / 128
        · rw [if_pos e, ← he, List.getElem?_set, contL_len]
          have e4 : (contL L[k / 128])[k % 128]? = (contL L[i])[k % 128]? := by congr 2; congr 1; exact e.symm
          rw [e4]
          by_cases e5 : j = k % 128
          · rw [if_pos (by omega), if_pos (by omega), if_pos e5, if_pos (show j < 128 from hj)]
          · rw [if_neg (by omega), if_neg e5]
        · rw [if_neg e, if_neg (by omega)]
      · rw [List.getElem?_eq_none (by rw [List.length_set, EC.all_len, ec_k]; omega), List.getElem?_eq_none (by rw [EC.all_len, hn, ec_k]; omega)]
    rw [hn, ← e2]
    exact hs
  · rw [List.length_set]; exact h.p.heap (k5 bp (Ne.symm h.gp))
  · rw [List.length_set]; exact h.keys
  · rw [List.length_set]; exact h.n1
  · rw [List.length_set]; exact h.n2
  · intro x hx
    rcases List.mem_or_eq_of_mem_set hx with h1 | h1
    · exact h.zl x h1
    · rw [h1]; exact ht
theorem Stp.drew' {S S' : Nat → Prop} {w w' : World} (h : Stp S S' w w') : Stp S S' w w'.drew := ⟨⟨h.b0.os, h.b0.tape, h.b0.output, h.b0.size, h.b0.block⟩, h.oth, h.grow⟩
/-- Whether bits can rot. -/
def rotB (fd : Bool) (L : List ByteArray) (V : Int → List ByteArray) (n at_ bits : Int) : Bool := !(fd || (!hasN L n || (decide (0 < (V n).length) || (decide (at_ < 0) || (decide (128 ≤ at_) || (decide (bits < 1) || decide (255 < bits)))))))
theorem rot_no {w : World} {S : Nat → Prop} {m g bp cap : Nat} {fd : Bool} {L : List ByteArray} {V : Int → List ByteArray} {F : Int → Value} (h : PBox w S m g bp cap fd L V F) (n at_ bits : Int) (hn : In64 n) (hr : rotB fd L V n at_ bits = false) :
    Calls Try.prog 21 #[.pointer (some ⟨m, 0, none⟩), .int .i64 n, .int .i64 at_, .int .i64 bits] w fun e w' => e = .returned (.bool false) ∧ w = w' := by
  have c0 := h.c0
  have ch := has_any h n
  have cv := vers_any h n hn
  unfold rotB at hr
  simp only [Bool.not_eq_false', Bool.or_eq_true, Bool.not_eq_true', decide_eq_true_eq] at hr
  clear h hn
  obtain ⟨q, hq⟩ : ∃ q, (V n).length = q := ⟨_, rfl⟩
  rw [hq] at cv hr
  obtain ⟨hb, hhb⟩ : ∃ hb, hasN L n = hb := ⟨_, rfl⟩
  rw [hhb] at ch hr
  clear hq hhb
  cases fd with
  | true =>
    clear hr ch cv
    go_enter Try.func21, Try.ntmps21
    go_wp2_with (fail)
    go_ret
    exact ⟨rfl, rfl⟩
  | false =>
    cases hb with
    | false =>
      clear hr cv
      go_enter Try.func21, Try.ntmps21
      go_wp2_with (fail)
      refine ch.mono ?_
      rintro e w' ⟨rfl, rfl⟩
      go_wp2_with (fail)
      go_ret
      exact ⟨rfl, rfl⟩
    | true =>
      simp only [Bool.false_eq_true, false_or, Bool.true_eq_false] at hr
      by_cases t0 : (0 : Int) < (q : Int)
      · clear hr
        go_enter Try.func21, Try.ntmps21
        go_wp2_with (fail)
        refine ch.mono ?_
        rintro e w' ⟨rfl, rfl⟩
        go_wp2_with (fail)
        refine cv.mono ?_
        rintro e w' ⟨rfl, rfl⟩
        go_wp2_with (fail)
        go_ret
        exact ⟨rfl, rfl⟩
      · skip
        by_cases t1 : at_ < 0
        · clear hr
          go_enter Try.func21, Try.ntmps21
          go_wp2_with (fail)
          refine ch.mono ?_
          rintro e w' ⟨rfl, rfl⟩
          go_wp2_with (fail)
          refine cv.mono ?_
          rintro e w' ⟨rfl, rfl⟩
          go_wp2_with (fail)
          go_ret
          exact ⟨rfl, rfl⟩
        · skip
          by_cases t2 : (128 : Int) ≤ at_
          · clear hr
            go_enter Try.func21, Try.ntmps21
            go_wp2_with (fail)
            refine ch.mono ?_
            rintro e w' ⟨rfl, rfl⟩
            go_wp2_with (fail)
            refine cv.mono ?_
            rintro e w' ⟨rfl, rfl⟩
            go_wp2_with (fail)
            go_ret
            exact ⟨rfl, rfl⟩
          · skip
            by_cases t3 : bits < 1
            · clear hr
              go_enter Try.func21, Try.ntmps21
              go_wp2_with (fail)
              refine ch.mono ?_
              rintro e w' ⟨rfl, rfl⟩
              go_wp2_with (fail)
              refine cv.mono ?_
              rintro e w' ⟨rfl, rfl⟩
              go_wp2_with (fail)
              go_ret
              exact ⟨rfl, rfl⟩
            · skip
              by_cases t4 : (255 : Int) < bits
              · clear hr
                go_enter Try.func21, Try.ntmps21
                go_wp2_with (fail)
                refine ch.mono ?_
                rintro e w' ⟨rfl, rfl⟩
                go_wp2_with (fail)
                refine cv.mono ?_
                rintro e w' ⟨rfl, rfl⟩
                go_wp2_with (fail)
                go_ret
                exact ⟨rfl, rfl⟩
              · omega
set_option maxRecDepth 100000 in
theorem rot_yes {w : World} {S : Nat → Prop} {m g bp cap : Nat} {fd : Bool} {L : List ByteArray} {V : Int → List ByteArray} {F : Int → Value} (h : PBox w S m g bp cap fd L V F) (n j b : Nat) (hr : rotB fd L V n j b = true) (hnl : n < L.length) (hj : j < 128) (hb : b < 256) :
    Calls Try.prog 21 #[.pointer (some ⟨m, 0, none⟩), .int .i64 (n : Int), .int .i64 (j : Int), .int .i64 (b : Int)] w fun e w' => e = .returned (.bool true) ∧ Stp S S w w' ∧ PBox w' S m g bp cap false (L.set n (rotS L[n] j b)) V F := by
  have hn2 := h.n2
  have hI := in64_nat n (by omega)
  unfold rotB at hr
  simp only [Bool.not_eq_true', Bool.or_eq_false_iff, Bool.not_eq_false', decide_eq_false_iff_not] at hr
  obtain ⟨rfl, hh, hv, h1, h2, h3, h4⟩ := hr
  have c0 := h.c0
  have c1 := h.c1
  have ch := has_any h n
  have cv := vers_any h n hI
  rw [hh] at ch
  have hv0 : (V n).length = 0 := by omega
  rw [hv0] at cv
  have hsz : L[n].size = 128 := h.zl _ (List.getElem_mem hnl)
  have cc : w.cell? ⟨g, n * 128 + j, none⟩ = some (.int .u8 (((L[n].data.toList.getD j 0).toNat : Nat) : Int)) := by
    have : w.cell? ⟨g, n * 128 + j, none⟩ = (contL L[n])[j]? := h.l.cell hnl hj
    rw [this, contL_get _ _ hj]; rfl
  have ff := h.l.frozen (n * 128 + j)
  obtain ⟨x, hx⟩ : ∃ x, L[n].data.toList.getD j 0 = x := ⟨_, rfl⟩
  obtain ⟨hB, hS⟩ := h.setB n hnl j hj (.int .u8 (((x.toNat ^^^ b : Nat)) : Int)) (rotS L[n] j b) (rotS_size _ _ _ hsz) (rotS_cells _ _ _ hsz hj hb _ (by rw [hx]))
  rw [hx] at cc
  have hxb : bits .xor .u8 ((x.toNat : Nat) : Int) ((b : Nat) : Int) = ((x.toNat ^^^ b : Nat) : Int) := xor8m _ _ x.toNat_lt hb
  have hwb : IntKind.u8.wrap (b : Int) = (b : Int) := by rw [IntKind.wrap_u8]; omega
  have y1 : (n : Int) < (L.length : Int) := by omega
  have y2 : (j : Int) < 128 := by omega
  have y3 : ¬ ((b : Int) < 1) := h3
  have y4 : ¬ ((255 : Int) < (b : Int)) := h4
  have hfin := Lib.hid (And.intro hS.drew' hB.drew)
  clear h hB hS h1 h2 h3 h4 hh hv hv0 hsz hI hb hn2 hx
  go_enter Try.func21, Try.ntmps21
  go_wp2_with (fail)
  refine ch.mono ?_
  rintro e w' ⟨rfl, rfl⟩
  go_wp2_with (fail)
  refine cv.mono ?_
  rintro e w' ⟨rfl, rfl⟩
  go_wp2_with (fail)
  go_region
  all_goals
    go_wp2_with (fail)
    go_ret
    exact ⟨rfl, hfin.out⟩
end Go.Proofs.Ytofhmdbilhdblaa
