/- sector's laws: what was turned does not open; sectors that are the same. -/
import Derived.Test.YtbiblmpojoglmaaSecLaw3
namespace Go.Proofs.Ytbiblmpojoglmaa
open Go.RowKit
set_option linter.unusedVariables false
set_option linter.unusedSimpArgs false

set_option maxRecDepth 100000 in
set_option maxHeartbeats 1000000 in
theorem sturned_none (d slot at_ : Int) (p : ByteArray) (wh : Int) (w : World) (rd : -9223372036854775808 ≤ d ∧ d ≤ 9223372036854775807) (rs : -9223372036854775808 ≤ slot ∧ slot ≤ 9223372036854775807) (ra : -9223372036854775808 ≤ at_ ∧ at_ ≤ 9223372036854775807) (hp : p.size ≤ 140737488351232) :
    Calls Try.prog 6 #[.int .i64 d, .int .i64 slot, .int .i64 at_, .string p, .int .i64 wh, .int .u32 0] w fun e w' => e = .returned (.bool true) ∧ Below w.heap.size w w' := by
  obtain ⟨i, l, a, q, hm, kk⟩ := made_any d slot at_ p rd rs ra hp
  unfold MadeR at kk
  go_enter Try.func6, Try.ntmps6
  go_wp2_with (fail)
  refine (secawake_any _).mono ?_
  rintro e w0 ⟨rfl, b0⟩
  go_wp2_with (fail)
  refine (kk _).mono ?_
  rintro e w1 ⟨rfl, b1⟩
  go_wp2_with (fail)
  go_ret
  exact ⟨rfl, below_c' b0 b1⟩
set_option maxRecDepth 100000 in
set_option maxHeartbeats 4000000 in
theorem sturned_low (d slot at_ : Int) (p : ByteArray) (wh : Int) (x r : Nat) (w : World) (rd : -9223372036854775808 ≤ d ∧ d ≤ 9223372036854775807) (rs : -9223372036854775808 ≤ slot ∧ slot ≤ 9223372036854775807) (ra : -9223372036854775808 ≤ at_ ∧ at_ ≤ 9223372036854775807) (hp : p.size ≤ 140737488351232) (hr : r < 4294967296) (hr0 : r ≠ 0) (rw_ : -9223372036854775808 ≤ wh ∧ wh ≤ 9223372036854775807)
    (hx : x < 122) (kx : ∀ w, Calls Try.prog 15 #[.int .i64 wh, .int .i64 122] w fun e w' => e = .returned (.int .i64 (x : Int)) ∧ w = w') (hx2 : x ≤ 120) :
    Calls Try.prog 6 #[.int .i64 d, .int .i64 slot, .int .i64 at_, .string p, .int .i64 wh, .int .u32 (r : Int)] w fun e w' => e = .returned (.bool true) ∧ Below w.heap.size w w' := by
  have t9 : (((x : Nat) : Int) == 121) = false := by rw [beq_eq_false_iff_ne]; omega
  obtain ⟨i, l, a, q, hm, kk⟩ := made_any d slot at_ p rd rs ra hp
  obtain ⟨n, hn, _, kn⟩ := pick_nat wh 128 rw_.1 rw_.2 (by decide) (by decide)
  have t0 : (((r : Nat) : Int) == 0) = false := by rw [beq_eq_false_iff_ne]; omega
  unfold MadeR at kk
  have hsl : (Sec.secL i l a q.data.toList).length = 128 := Sec.sec_length _ _ _ (by have := hm.q; simpa using this)
  have s1 := turn_shut (f := x) hm (turnL (Sec.secL i l a q.data.toList) x r 4) (by rw [turn_length, hsl]) (by omega) (fun j hj => by
    rcases Nat.lt_or_ge j 128 with h1 | h1
    · rw [turn_get _ _ _ _ (by omega), if_neg (by omega)]
    · rw [List.getD_eq_getElem?_getD, List.getD_eq_getElem?_getD, List.getElem?_eq_none (by rw [turn_length]; omega), List.getElem?_eq_none (by omega)]) (turn_ne _ _ _ (by omega) hr0 hr)
  have hb : 1 + r % 255 < 256 := by omega
  obtain ⟨wn, hwn⟩ : ∃ f, (f ≤ 120 ∨ f = 124) ∧ f ≤ n ∧ n < f + 4 := by
    by_cases h1 : n ≤ 120
    · exact ⟨n, by omega⟩
    · by_cases h2 : n < 124
      · exact ⟨120, by omega⟩
      · exact ⟨124, by omega⟩
  have s2 := turn_shut (f := wn) hm ((Sec.secL i l a q.data.toList).set n (UInt8.ofNat (((Sec.secL i l a q.data.toList).getD n 0).toNat ^^^ (1 + r % 255)))) (by rw [List.length_set, hsl]) hwn.1 (fun j hj => by
    rw [List.getD_eq_getElem?_getD, List.getElem?_set, if_neg (by omega), ← List.getD_eq_getElem?_getD]) (fun e => by
    have e1 := congrArg (fun l => l.getD n 0) e
    simp only [List.getD_eq_getElem?_getD, List.getElem?_set, if_pos rfl, if_pos (show n < (Sec.secL i l a q.data.toList).length by omega), Option.getD_some] at e1
    exact xor_ne _ _ hb (by omega) e1)
  have c1 := fun W => open_any (i : Int) (l : Int) (a : Int) (lineOf (turnL (Sec.secL i l a q.data.toList) x r 4)) W (by rw [lineOf_size, turn_length]; omega)
  have c2 := fun W => open_any (i : Int) (l : Int) (a : Int) (lineOf ((Sec.secL i l a q.data.toList).set n (UInt8.ofNat (((Sec.secL i l a q.data.toList).getD n 0).toNat ^^^ (1 + r % 255))))) W (by rw [lineOf_size, List.length_set]; omega)
  rw [s1] at c1
  rw [s2] at c2
  have hss : (secS i l a q).size = 128 := hm.sz
  have hsd : (secS i l a q).data.toList = Sec.secL i l a q.data.toList := by rw [secS, list_lineOf]
  have l1 : 128 ≤ (secS i l a q).size := by omega
  have hss' := Lib.hid hss
  have hsd' := Lib.hid hsd
  have hsl' := Lib.hid hsl
  clear s1 s2 hss hsd hm hwn hsl
  generalize openS (i : Int) (l : Int) (a : Int) (lineOf (turnL (Sec.secL i l a q.data.toList) x r 4)) = o1 at *
  generalize openS (i : Int) (l : Int) (a : Int) (lineOf ((Sec.secL i l a q.data.toList).set n (UInt8.ofNat (((Sec.secL i l a q.data.toList).getD n 0).toNat ^^^ (1 + r % 255))))) = o2 at *
  generalize secS i l a q = s at *
  generalize Sec.secL i l a q.data.toList = S at *
  generalize padB q 120 = pd at *
  have c1' := Lib.hid c1
  have c2' := Lib.hid c2
  clear c1 c2
  go_enter Try.func6, Try.ntmps6
  go_wp2_with (fail)
  refine (secawake_any _).mono ?_
  rintro e w0 ⟨rfl, b0⟩
  go_wp2_with (fail)
  refine (kk _).mono ?_
  rintro e w1 ⟨rfl, b1⟩
  go_wp2_with (fail)
  refine (kx _).mono ?_
  rintro e wq ⟨rfl, rfl⟩
  obtain ⟨cap, w2, C, hmk, r2, b2, z2⟩ := MRow.make_run w1 s
  rw [hsd'.out] at r2
  have z2' := Lib.hid z2
  clear z2
  go_wp2_with (fail)
  go_loopw [22] (fun i wr => ∃ k : Nat, k ≤ 4 ∧ i = .int .i64 (k : Int) ∧ MRow wr w1.heap.size C (turnL S x r k) ∧ Below w1.heap.size w1 wr) (fun i _ => 4 - (intOf i).toNat)
  case atStart => exact ⟨0, by omega, rfl, by rw [turn_zero]; exact r2, b2⟩
  case round =>
    obtain ⟨k, hk, rfl, hM, hB⟩ := hrel
    have hlen := turn_length S x r k
    rw [hsl'.out] at hlen
    by_cases hlt : k < 4
    · have b1' : (k : Int) < 4 := by omega
      have hnx := Lib.hid (turn_succ S x r k (by rw [hsl'.out]; omega))
      obtain ⟨m, hmm⟩ : ∃ m, m = x + k := ⟨_, rfl⟩
      have e0 : (x : Int) + (k : Int) = (m : Int) := by omega
      rw [← hmm] at hnx
      have cz := hM.cell (i := m) (by omega)
      have fz := hM.frozen (i := m) (by omega)
      have b3 : (m : Int) < (s.size : Int) := by omega
      have hmlt : m < (turnL S x r k).length := by omega
      have hv : Hid (bits .xor .u8 ((((turnL S x r k)[m].toNat : Nat) : Int)) ((r : Int) / 2 ^ (8 * k) % 256) = (((UInt8.ofNat (((turnL S x r k).getD m 0).toNat ^^^ (r / 256 ^ k % 256))).toNat : Nat) : Int)) := Lib.hid (by
        rw [shr_byte, Pk.byte_nat, xor_byte _ _ (Nat.mod_lt _ (by decide)), show (turnL S x r k).getD m 0 = (turnL S x r k)[m] by rw [List.getD_eq_getElem?_getD, List.getElem?_eq_getElem hmlt]; rfl]
        exact xor8 _ _ (UInt8.toNat_lt _) (Nat.mod_lt _ (by decide)))
      have HM := Lib.hid hmm
      have HL := Lib.hid hlen
      clear hmm hlen
      go_wp2
      go_region
      go_wp2
      go_roundw
      case rel => exact ⟨k + 1, by omega, by go_num, by rw [hnx.out]; exact (hM.set hmlt _ _ hv.out).drew, (hB.setCell (p := ⟨w1.heap.size, m, none⟩) (Nat.le_refl _) _).drew⟩
      case measure => simp [intOf]; omega
    · have e : k = 4 := by omega
      subst e
      have hcv := hM.str s.size cap (by rw [turn_length, hsl'.out, hss'.out])
      generalize lineOf (turnL S x r 4) = T1 at *
      go_wp2_with (fail)
      refine (c1'.out _).mono ?_
      rintro e w3 ⟨rfl, b3⟩
      obtain ⟨cap2, w4, C2, hmk2, r4, b4, z4⟩ := MRow.make_run w3 s
      rw [hsd'.out] at r4
      have z4' := Lib.hid z4
      clear z4
      have hlS : n < S.length := by have := hsl'.out; omega
      have cz := r4.cell (i := n) hlS
      have fz := r4.frozen (i := n) hlS
      have b5 : (n : Int) < (s.size : Int) := by omega
      have hv : Hid (bits .xor .u8 (((S[n].toNat : Nat) : Int)) (1 + (r : Int) % 255) = (((UInt8.ofNat ((S.getD n 0).toNat ^^^ (1 + r % 255))).toNat : Nat) : Int)) := Lib.hid (by
        rw [xor_byte _ _ hb, show S.getD n 0 = S[n] by rw [List.getD_eq_getElem?_getD, List.getElem?_eq_getElem hlS]; rfl, show 1 + (r : Int) % 255 = ((1 + r % 255 : Nat) : Int) by omega]
        exact xor8 _ _ (UInt8.toNat_lt _) hb)
      have hcv2 := (r4.set hlS _ _ hv.out).str s.size cap2 (by rw [List.length_set, hsl'.out, hss'.out])
      generalize lineOf (S.set n (UInt8.ofNat ((S.getD n 0).toNat ^^^ (1 + r % 255)))) = T2 at *
      go_wp2_with (fail)
      refine (kn _).mono ?_
      rintro e wq ⟨rfl, rfl⟩
      go_wp2_with (fail)
      refine (c2'.out _).mono ?_
      rintro e w6 ⟨rfl, b6⟩
      go_wp2_with (fail)
      go_ret
      exact ⟨rfl, below_c' (below_c' (below_c' (below_c' (below_c' b0 b1) hB) b3) (b4.setCell (p := ⟨w3.heap.size, n, none⟩) (Nat.le_refl _) _)) b6⟩
set_option maxRecDepth 100000 in
set_option maxHeartbeats 4000000 in
theorem sturned_high (d slot at_ : Int) (p : ByteArray) (wh : Int) (r : Nat) (w : World) (rd : -9223372036854775808 ≤ d ∧ d ≤ 9223372036854775807) (rs : -9223372036854775808 ≤ slot ∧ slot ≤ 9223372036854775807) (ra : -9223372036854775808 ≤ at_ ∧ at_ ≤ 9223372036854775807) (hp : p.size ≤ 140737488351232) (hr : r < 4294967296) (hr0 : r ≠ 0) (rw_ : -9223372036854775808 ≤ wh ∧ wh ≤ 9223372036854775807)
    (kx : ∀ w, Calls Try.prog 15 #[.int .i64 wh, .int .i64 122] w fun e w' => e = .returned (.int .i64 121) ∧ w = w')  :
    Calls Try.prog 6 #[.int .i64 d, .int .i64 slot, .int .i64 at_, .string p, .int .i64 wh, .int .u32 (r : Int)] w fun e w' => e = .returned (.bool true) ∧ Below w.heap.size w w' := by
  obtain ⟨i, l, a, q, hm, kk⟩ := made_any d slot at_ p rd rs ra hp
  obtain ⟨n, hn, _, kn⟩ := pick_nat wh 128 rw_.1 rw_.2 (by decide) (by decide)
  have t0 : (((r : Nat) : Int) == 0) = false := by rw [beq_eq_false_iff_ne]; omega
  unfold MadeR at kk
  have hsl : (Sec.secL i l a q.data.toList).length = 128 := Sec.sec_length _ _ _ (by have := hm.q; simpa using this)
  have s1 := turn_shut (f := 124) hm (turnL (Sec.secL i l a q.data.toList) 124 r 4) (by rw [turn_length, hsl]) (by omega) (fun j hj => by
    rcases Nat.lt_or_ge j 128 with h1 | h1
    · rw [turn_get _ _ _ _ (by omega), if_neg (by omega)]
    · rw [List.getD_eq_getElem?_getD, List.getD_eq_getElem?_getD, List.getElem?_eq_none (by rw [turn_length]; omega), List.getElem?_eq_none (by omega)]) (turn_ne _ _ _ (by omega) hr0 hr)
  have hb : 1 + r % 255 < 256 := by omega
  obtain ⟨wn, hwn⟩ : ∃ f, (f ≤ 120 ∨ f = 124) ∧ f ≤ n ∧ n < f + 4 := by
    by_cases h1 : n ≤ 120
    · exact ⟨n, by omega⟩
    · by_cases h2 : n < 124
      · exact ⟨120, by omega⟩
      · exact ⟨124, by omega⟩
  have s2 := turn_shut (f := wn) hm ((Sec.secL i l a q.data.toList).set n (UInt8.ofNat (((Sec.secL i l a q.data.toList).getD n 0).toNat ^^^ (1 + r % 255)))) (by rw [List.length_set, hsl]) hwn.1 (fun j hj => by
    rw [List.getD_eq_getElem?_getD, List.getElem?_set, if_neg (by omega), ← List.getD_eq_getElem?_getD]) (fun e => by
    have e1 := congrArg (fun l => l.getD n 0) e
    simp only [List.getD_eq_getElem?_getD, List.getElem?_set, if_pos rfl, if_pos (show n < (Sec.secL i l a q.data.toList).length by omega), Option.getD_some] at e1
    exact xor_ne _ _ hb (by omega) e1)
  have c1 := fun W => open_any (i : Int) (l : Int) (a : Int) (lineOf (turnL (Sec.secL i l a q.data.toList) 124 r 4)) W (by rw [lineOf_size, turn_length]; omega)
  have c2 := fun W => open_any (i : Int) (l : Int) (a : Int) (lineOf ((Sec.secL i l a q.data.toList).set n (UInt8.ofNat (((Sec.secL i l a q.data.toList).getD n 0).toNat ^^^ (1 + r % 255))))) W (by rw [lineOf_size, List.length_set]; omega)
  rw [s1] at c1
  rw [s2] at c2
  have hss : (secS i l a q).size = 128 := hm.sz
  have hsd : (secS i l a q).data.toList = Sec.secL i l a q.data.toList := by rw [secS, list_lineOf]
  have l1 : 128 ≤ (secS i l a q).size := by omega
  have hss' := Lib.hid hss
  have hsd' := Lib.hid hsd
  have hsl' := Lib.hid hsl
  clear s1 s2 hss hsd hm hwn hsl
  generalize openS (i : Int) (l : Int) (a : Int) (lineOf (turnL (Sec.secL i l a q.data.toList) 124 r 4)) = o1 at *
  generalize openS (i : Int) (l : Int) (a : Int) (lineOf ((Sec.secL i l a q.data.toList).set n (UInt8.ofNat (((Sec.secL i l a q.data.toList).getD n 0).toNat ^^^ (1 + r % 255))))) = o2 at *
  generalize secS i l a q = s at *
  generalize Sec.secL i l a q.data.toList = S at *
  generalize padB q 120 = pd at *
  have c1' := Lib.hid c1
  have c2' := Lib.hid c2
  clear c1 c2
  go_enter Try.func6, Try.ntmps6
  go_wp2_with (fail)
  refine (secawake_any _).mono ?_
  rintro e w0 ⟨rfl, b0⟩
  go_wp2_with (fail)
  refine (kk _).mono ?_
  rintro e w1 ⟨rfl, b1⟩
  go_wp2_with (fail)
  refine (kx _).mono ?_
  rintro e wq ⟨rfl, rfl⟩
  obtain ⟨cap, w2, C, hmk, r2, b2, z2⟩ := MRow.make_run w1 s
  rw [hsd'.out] at r2
  have z2' := Lib.hid z2
  clear z2
  go_wp2_with (fail)
  go_loopw [22] (fun i wr => ∃ k : Nat, k ≤ 4 ∧ i = .int .i64 (k : Int) ∧ MRow wr w1.heap.size C (turnL S 124 r k) ∧ Below w1.heap.size w1 wr) (fun i _ => 4 - (intOf i).toNat)
  case atStart => exact ⟨0, by omega, rfl, by rw [turn_zero]; exact r2, b2⟩
  case round =>
    obtain ⟨k, hk, rfl, hM, hB⟩ := hrel
    have hlen := turn_length S 124 r k
    rw [hsl'.out] at hlen
    by_cases hlt : k < 4
    · have b1' : (k : Int) < 4 := by omega
      have hnx := Lib.hid (turn_succ S 124 r k (by rw [hsl'.out]; omega))
      obtain ⟨m, hmm⟩ : ∃ m, m = 124 + k := ⟨_, rfl⟩
      have e0 : (124 : Int) + (k : Int) = (m : Int) := by omega
      rw [← hmm] at hnx
      have cz := hM.cell (i := m) (by omega)
      have fz := hM.frozen (i := m) (by omega)
      have b3 : (m : Int) < (s.size : Int) := by omega
      have hmlt : m < (turnL S 124 r k).length := by omega
      have hv : Hid (bits .xor .u8 ((((turnL S 124 r k)[m].toNat : Nat) : Int)) ((r : Int) / 2 ^ (8 * k) % 256) = (((UInt8.ofNat (((turnL S 124 r k).getD m 0).toNat ^^^ (r / 256 ^ k % 256))).toNat : Nat) : Int)) := Lib.hid (by
        rw [shr_byte, Pk.byte_nat, xor_byte _ _ (Nat.mod_lt _ (by decide)), show (turnL S 124 r k).getD m 0 = (turnL S 124 r k)[m] by rw [List.getD_eq_getElem?_getD, List.getElem?_eq_getElem hmlt]; rfl]
        exact xor8 _ _ (UInt8.toNat_lt _) (Nat.mod_lt _ (by decide)))
      have HM := Lib.hid hmm
      have HL := Lib.hid hlen
      clear hmm hlen
      go_wp2
      go_region
      go_wp2
      go_roundw
      case rel => exact ⟨k + 1, by omega, by go_num, by rw [hnx.out]; exact (hM.set hmlt _ _ hv.out).drew, (hB.setCell (p := ⟨w1.heap.size, m, none⟩) (Nat.le_refl _) _).drew⟩
      case measure => simp [intOf]; omega
    · have e : k = 4 := by omega
      subst e
      have hcv := hM.str s.size cap (by rw [turn_length, hsl'.out, hss'.out])
      generalize lineOf (turnL S 124 r 4) = T1 at *
      go_wp2_with (fail)
      refine (c1'.out _).mono ?_
      rintro e w3 ⟨rfl, b3⟩
      obtain ⟨cap2, w4, C2, hmk2, r4, b4, z4⟩ := MRow.make_run w3 s
      rw [hsd'.out] at r4
      have z4' := Lib.hid z4
      clear z4
      have hlS : n < S.length := by have := hsl'.out; omega
      have cz := r4.cell (i := n) hlS
      have fz := r4.frozen (i := n) hlS
      have b5 : (n : Int) < (s.size : Int) := by omega
      have hv : Hid (bits .xor .u8 (((S[n].toNat : Nat) : Int)) (1 + (r : Int) % 255) = (((UInt8.ofNat ((S.getD n 0).toNat ^^^ (1 + r % 255))).toNat : Nat) : Int)) := Lib.hid (by
        rw [xor_byte _ _ hb, show S.getD n 0 = S[n] by rw [List.getD_eq_getElem?_getD, List.getElem?_eq_getElem hlS]; rfl, show 1 + (r : Int) % 255 = ((1 + r % 255 : Nat) : Int) by omega]
        exact xor8 _ _ (UInt8.toNat_lt _) hb)
      have hcv2 := (r4.set hlS _ _ hv.out).str s.size cap2 (by rw [List.length_set, hsl'.out, hss'.out])
      generalize lineOf (S.set n (UInt8.ofNat ((S.getD n 0).toNat ^^^ (1 + r % 255)))) = T2 at *
      go_wp2_with (fail)
      refine (kn _).mono ?_
      rintro e wq ⟨rfl, rfl⟩
      go_wp2_with (fail)
      refine (c2'.out _).mono ?_
      rintro e w6 ⟨rfl, b6⟩
      go_wp2_with (fail)
      go_ret
      exact ⟨rfl, below_c' (below_c' (below_c' (below_c' (below_c' b0 b1) hB) b3) (b4.setCell (p := ⟨w3.heap.size, n, none⟩) (Nat.le_refl _) _)) b6⟩
theorem sturned_walk (d slot at_ : Int) (p : ByteArray) (wh : Int) (r : Nat) (w : World) (rd : -9223372036854775808 ≤ d ∧ d ≤ 9223372036854775807) (rs : -9223372036854775808 ≤ slot ∧ slot ≤ 9223372036854775807) (ra : -9223372036854775808 ≤ at_ ∧ at_ ≤ 9223372036854775807) (hp : p.size ≤ 140737488351232) (hr : r < 4294967296) (rw_ : -9223372036854775808 ≤ wh ∧ wh ≤ 9223372036854775807) :
    Calls Try.prog 6 #[.int .i64 d, .int .i64 slot, .int .i64 at_, .string p, .int .i64 wh, .int .u32 (r : Int)] w fun e w' => e = .returned (.bool true) ∧ Below w.heap.size w w' := by
  by_cases h0 : r = 0
  · subst h0; exact sturned_none d slot at_ p wh w rd rs ra hp
  · obtain ⟨x, hx, _, kx⟩ := pick_nat wh 122 rw_.1 rw_.2 (by decide) (by decide)
    by_cases h1 : x = 121
    · subst h1; exact sturned_high d slot at_ p wh r w rd rs ra hp hr h0 rw_ kx
    · exact sturned_low d slot at_ p wh x r w rd rs ra hp hr h0 rw_ (by omega) kx (by omega)
set_option maxRecDepth 100000 in
set_option maxHeartbeats 2000000 in
theorem sonce_walk (a0 a1 a2 : Int) (p : ByteArray) (b0 b1 b2 : Int) (q : ByteArray) (w : World) (r0 : -9223372036854775808 ≤ a0 ∧ a0 ≤ 9223372036854775807) (r1 : -9223372036854775808 ≤ a1 ∧ a1 ≤ 9223372036854775807) (r2 : -9223372036854775808 ≤ a2 ∧ a2 ≤ 9223372036854775807) (s0 : -9223372036854775808 ≤ b0 ∧ b0 ≤ 9223372036854775807) (s1 : -9223372036854775808 ≤ b1 ∧ b1 ≤ 9223372036854775807) (s2 : -9223372036854775808 ≤ b2 ∧ b2 ≤ 9223372036854775807) (hp : p.size ≤ 140737488351232) (hq : q.size ≤ 140737488351232) :
    Calls Try.prog 8 #[.agg #[.int .i64 a0, .int .i64 a1, .int .i64 a2], .string p, .agg #[.int .i64 b0, .int .i64 b1, .int .i64 b2], .string q] w fun e w' => e = .returned (.bool true) ∧ Below w.heap.size w w' := by
  obtain ⟨i, l, a, x, hm, kk⟩ := made_any a0 a1 a2 p r0 r1 r2 hp
  obtain ⟨j, m, b, y, hm2, kk2⟩ := made_any b0 b1 b2 q s0 s1 s2 hq
  unfold MadeR at kk kk2
  obtain ⟨c1, t1⟩ : ∃ c, ((i : Int) == (j : Int)) = c := ⟨_, rfl⟩
  obtain ⟨c2, t2⟩ : ∃ c, ((l : Int) == (m : Int)) = c := ⟨_, rfl⟩
  obtain ⟨c3, t3⟩ : ∃ c, ((a : Int) == (b : Int)) = c := ⟨_, rfl⟩
  obtain ⟨c4, t4⟩ : ∃ c, ((padB x 120).toList == (padB y 120).toList) = c := ⟨_, rfl⟩
  have hxl : x.data.toList.length ≤ 120 := by have := hm.q; simpa using this
  have hyl : y.data.toList.length ≤ 120 := by have := hm2.q; simpa using this
  have i1 := hm.i2
  have i2 := hm2.i2
  have i3 := hm.l
  have i4 := hm2.l
  have i5 := hm.a
  have i6 := hm2.a
  have t5 : ((secS i l a x).toList == (secS j m b y).toList) = (c1 && (c2 && (c3 && c4))) := by
    show eqS (secS i l a x) (secS j m b y) = _
    rw [← t1, ← t2, ← t3, ← t4]
    show _ = ((((i : Int)) == (j : Int)) && ((((l : Int)) == (m : Int)) && ((((a : Int)) == (b : Int)) && eqS (padB x 120) (padB y 120))))
    rw [Bool.eq_iff_iff]
    simp only [Bool.and_eq_true, beq_iff_eq, eqS_iff]
    have e1 : secS i l a x = secS j m b y ↔ Sec.secL i l a x.data.toList = Sec.secL j m b y.data.toList :=
      ⟨fun h => by have := congrArg (fun b => b.data.toList) h; simpa only [secS, list_lineOf] using this, fun h => by rw [secS, secS, h]⟩
    have e2 : padB x 120 = padB y 120 ↔ Pk.padL x.data.toList 120 = Pk.padL y.data.toList 120 :=
      ⟨fun h => by have := congrArg (fun b => b.data.toList) h; simpa only [padB, list_lineOf] using this, fun h => by rw [padB, padB, h]⟩
    rw [e1, e2, Sec.sec_inj hxl hyl (by omega) (by omega) (by omega) (by omega) (by omega) (by omega)]
    constructor
    · rintro ⟨h1, h2, h3, h4⟩; exact ⟨by omega, by omega, by omega, h4⟩
    · rintro ⟨h1, h2, h3, h4⟩; exact ⟨by omega, by omega, by omega, h4⟩
  clear hm hm2 hxl hyl i1 i2 i3 i4 i5 i6
  generalize secS i l a x = u1 at *
  generalize secS j m b y = u2 at *
  generalize padB x 120 = p1 at *
  generalize padB y 120 = p2 at *
  go_enter Try.func8, Try.ntmps8
  go_wp2_with (fail)
  refine (secawake_any _).mono ?_
  rintro e w0 ⟨rfl, b0'⟩
  have hc := bcell b0'
  go_wp2_with (fail)
  refine (kk _).mono ?_
  rintro e w1 ⟨rfl, b1'⟩
  have hc1 := bcell b1'
  have z1 := b0'.size
  simp at z1
  have z2 : w.heap.size + 1 < w0.heap.size := by omega
  have z3 : w.heap.size < w0.heap.size := by omega
  go_wp2_with (fail)
  refine (kk2 _).mono ?_
  rintro e w2 ⟨rfl, b2'⟩
  have B0 : Below w.heap.size w w0 := (((Below.refl w.heap.size w).alloc (Nat.le_refl _) _).alloc (by simp) _).trans (b0'.mono (by simp; omega))
  cases c1 <;> cases c2 <;> cases c3 <;> cases c4 <;>
  · go_wp2_with (fail)
    go_ret
    exact ⟨rfl, below_c' (below_c' B0 b1') b2'⟩
end Go.Proofs.Ytbiblmpojoglmaa
