/- sector's laws: noughts; what was turned. -/
import Derived.Test.YtbiblmpojoglmaaSecLaw2
namespace Go.Proofs.Ytbiblmpojoglmaa
open Go.RowKit
set_option linter.unusedVariables false
set_option linter.unusedSimpArgs false

theorem zero_shut (d slot at_ : Int) (n : Nat) : openOk d slot at_ (lineOf (List.replicate n 0)) = false := by
  cases e : openOk d slot at_ (lineOf (List.replicate n 0)) with
  | false => rfl
  | true =>
    rw [openOk, Bool.and_eq_true, Bool.and_eq_true, eqS_iff, decide_eq_true_eq, lineOf_size, List.length_replicate] at e
    obtain ⟨rfl, h, he⟩ := e
    rw [sealL, if_pos h] at he
    unfold sealOk at h; rw [decide_eq_true_eq] at h
    have hx : ((lineOf (List.replicate 128 0)).extract 0 120).data.toList = List.replicate 120 0 := by
      simp [lineOf, ByteArray.data_extract]
    have he2 := congrArg (fun b => b.data.toList) he
    simp only [secS, list_lineOf, hx] at he2
    have hl : (List.replicate 120 (0 : UInt8)).length ≤ 120 := by simp
    have h3 := congrArg (List.take 124) he2
    rw [Sec.sec_head _ _ _ hl, show List.take 124 (List.replicate 128 (0 : UInt8)) = List.replicate 124 0 from rfl] at h3
    unfold Sec.headL at h3
    rw [show List.replicate 124 (0 : UInt8) = List.replicate 120 0 ++ Pk.be 2 0 ++ Pk.be 1 0 ++ Pk.be 1 0 from rfl] at h3
    obtain ⟨h3, _⟩ := List.append_inj h3 (by simp [Pk.be_length, Pk.padL])
    obtain ⟨h3, _⟩ := List.append_inj h3 (by simp [Pk.be_length, Pk.padL])
    obtain ⟨_, h4⟩ := List.append_inj h3 (by simp [Pk.padL])
    have := Pk.be_inj (w := 2) (by omega) (by decide) h4
    exfalso; omega
set_option maxRecDepth 100000 in
set_option maxHeartbeats 1000000 in
theorem sblank_walk (d slot at_ long : Int) (w : World) (rl : -9223372036854775808 ≤ long ∧ long ≤ 9223372036854775807) :
    Calls Try.prog 7 #[.int .i64 d, .int .i64 slot, .int .i64 at_, .int .i64 long] w fun e w' => e = .returned (.bool true) ∧ Below w.heap.size w w' := by
  obtain ⟨n, hn, _, kn⟩ := pick_nat long 300 rl.1 rl.2 (by decide) (by decide)
  have c1 := fun W => open_any d slot at_ (lineOf (List.replicate 128 0)) W (by rw [lineOf_size]; simp)
  have c2 := fun W => open_any d slot at_ (lineOf (List.replicate n 0)) W (by rw [lineOf_size]; simp; omega)
  rw [zero_shut] at c1 c2
  generalize openS d slot at_ (lineOf (List.replicate 128 0)) = x1 at *
  generalize openS d slot at_ (lineOf (List.replicate n 0)) = x2 at *
  go_enter Try.func7, Try.ntmps7
  go_wp2_with (fail)
  refine (secawake_any _).mono ?_
  rintro e w0 ⟨rfl, b0⟩
  obtain ⟨w1, hmk, r1, b1, _⟩ := BRow.make_run w0 128 (by decide)
  rw [show ((128 : Nat) : Int) = 128 from rfl] at hmk
  have hst := r1.str 128 128 (by simp)
  generalize lineOf (List.replicate 128 (0 : UInt8)) = z1 at *
  go_wp2_with (fail)
  refine (c1 _).mono ?_
  rintro e w2 ⟨rfl, b2⟩
  go_wp2_with (fail)
  refine (kn _).mono ?_
  rintro e wq ⟨rfl, rfl⟩
  obtain ⟨w3, hmk3, r3, b3, _⟩ := BRow.make_run w2 n (by omega)
  have hst3 := r3.str n n (by simp)
  generalize lineOf (List.replicate n (0 : UInt8)) = z2 at *
  go_wp2_with (fail)
  refine (c2 _).mono ?_
  rintro e w4 ⟨rfl, b4⟩
  go_wp2_with (fail)
  go_ret
  exact ⟨rfl, below_c' (below_c' (below_c' (below_c' b0 b1) b2) b3) b4⟩
/-- What was turned. -/
def turnL (S : List UInt8) (f r k : Nat) : List UInt8 := (List.range S.length).map fun j => if f ≤ j ∧ j < f + k then UInt8.ofNat ((S.getD j 0).toNat ^^^ (r / 256 ^ (j - f) % 256)) else S.getD j 0
theorem turn_length (S : List UInt8) (f r k : Nat) : (turnL S f r k).length = S.length := by simp [turnL]
theorem turn_get (S : List UInt8) (f r k : Nat) {j : Nat} (h : j < S.length) : (turnL S f r k).getD j 0 = if f ≤ j ∧ j < f + k then UInt8.ofNat ((S.getD j 0).toNat ^^^ (r / 256 ^ (j - f) % 256)) else S.getD j 0 := by
  rw [List.getD_eq_getElem?_getD, List.getElem?_eq_getElem (by rw [turn_length]; exact h)]
  simp only [turnL, List.getElem_map, List.getElem_range, Option.getD_some]
theorem turn_zero (S : List UInt8) (f r : Nat) : turnL S f r 0 = S := by
  apply List.ext_getElem (turn_length _ _ _ _)
  intro j h1 h2
  have := turn_get S f r 0 h2
  rw [if_neg (by omega), List.getD_eq_getElem?_getD, List.getElem?_eq_getElem h1, List.getD_eq_getElem?_getD, List.getElem?_eq_getElem h2] at this
  exact this
theorem turn_succ (S : List UInt8) (f r k : Nat) (h : f + k < S.length) : turnL S f r (k + 1) = (turnL S f r k).set (f + k) (UInt8.ofNat (((turnL S f r k).getD (f + k) 0).toNat ^^^ (r / 256 ^ k % 256))) := by
  rw [turn_get S f r k h, if_neg (by omega)]
  apply List.ext_getElem (by simp [turn_length])
  intro j h1 h2
  rw [turn_length] at h1
  have e1 := turn_get S f r (k + 1) h1
  have e2 := turn_get S f r k h1
  rw [List.getD_eq_getElem?_getD, List.getElem?_eq_getElem (by rw [turn_length]; exact h1)] at e1 e2
  simp only [Option.getD_some] at e1 e2
  rw [List.getElem_set, e1]
  by_cases e : f + k = j
  · rw [if_pos e, if_pos (by omega), ← e, show f + k - f = k by omega]
  · rw [if_neg e, e2]
    by_cases h3 : f ≤ j ∧ j < f + k
    · rw [if_pos h3, if_pos (by omega)]
    · rw [if_neg h3, if_neg (by omega)]
theorem xor_byte (a : UInt8) (b : Nat) (hb : b < 256) : (UInt8.ofNat (a.toNat ^^^ b)).toNat = a.toNat ^^^ b := by
  have h : a.toNat ^^^ b < 2 ^ 8 := Nat.xor_lt_two_pow (n := 8) a.toNat_lt hb
  exact UInt8.toNat_ofNat_of_lt' h
theorem xor_ne (a : UInt8) (b : Nat) (hb : b < 256) (h : b ≠ 0) : UInt8.ofNat (a.toNat ^^^ b) ≠ a := by
  intro e
  have := xor_byte a b hb
  rw [e] at this
  apply h
  have h2 : a.toNat ^^^ (a.toNat ^^^ b) = a.toNat ^^^ a.toNat := by rw [← this]
  rw [← Nat.xor_assoc, Nat.xor_self, Nat.zero_xor] at h2
  exact h2
theorem turn_ne (S : List UInt8) (f r : Nat) (h : f + 4 ≤ S.length) (h0 : r ≠ 0) (hr : r < 4294967296) : turnL S f r 4 ≠ S := by
  intro e
  have hk : ∀ k, k < 4 → r / 256 ^ k % 256 = 0 := fun k hk => by
    have h1 := turn_get S f r 4 (j := f + k) (by omega)
    rw [if_pos (by omega), e, show f + k - f = k by omega] at h1
    by_cases hz : r / 256 ^ k % 256 = 0
    · exact hz
    · exact absurd h1.symm (xor_ne _ _ (Nat.mod_lt _ (by decide)) hz)
  have k0 := hk 0 (by decide)
  have k1 := hk 1 (by decide)
  have k2 := hk 2 (by decide)
  have k3 := hk 3 (by decide)
  omega
theorem xor8 (a b : Nat) (h1 : a < 256) (h2 : b < 256) : bits .xor .u8 (a : Int) (b : Int) = ((a ^^^ b : Nat) : Int) := by
  have hl : a ^^^ b < 256 := Nat.xor_lt_two_pow (n := 8) h1 h2
  have e : (BitVec.ofNat 8 a ^^^ BitVec.ofNat 8 b).toNat = a ^^^ b := by
    rw [BitVec.toNat_xor, BitVec.toNat_ofNat, BitVec.toNat_ofNat, Nat.mod_eq_of_lt (by omega), Nat.mod_eq_of_lt (by omega)]
  have e2 : bits .xor .u8 (a : Int) (b : Int) = IntKind.u8.wrap (((BitVec.ofNat 8 a ^^^ BitVec.ofNat 8 b).toNat : Nat) : Int) := by
    have ea : BitVec.ofInt 8 (a : Int) = BitVec.ofNat 8 a := BitVec.ofInt_natCast 8 a
    have eb : BitVec.ofInt 8 (b : Int) = BitVec.ofNat 8 b := BitVec.ofInt_natCast 8 b
    rw [← ea, ← eb]; rfl
  rw [e2, e, IntKind.wrap_u8]
  omega
/-- What was turned in a sector does not open. -/
theorem turn_shut {i l a f : Nat} {q : ByteArray} (hm : Made i l a q) (T : List UInt8) (hT : T.length = 128) (hf : f ≤ 120 ∨ f = 124) (hw : ∀ j, j < f ∨ f + 4 ≤ j → T.getD j 0 = (Sec.secL i l a q.data.toList).getD j 0) (hne : T ≠ Sec.secL i l a q.data.toList) :
    openOk (i : Int) (l : Int) (a : Int) (lineOf T) = false := by
  have hq : q.data.toList.length ≤ 120 := by have := hm.q; simpa using this
  have hz : (lineOf T).size = 128 := by rw [lineOf_size, hT]
  cases e : openOk (i : Int) (l : Int) (a : Int) (lineOf T) with
  | false => rfl
  | true =>
    rw [openOk, Bool.and_eq_true, Bool.and_eq_true, eqS_iff, decide_eq_true_eq] at e
    obtain ⟨_, h, he⟩ := e
    rw [sealL, if_pos h, secS] at he
    have he2 := congrArg (fun b => b.data.toList) he
    have hx : ((lineOf T).extract 0 120).data.toList = T.take 120 := by simp [lineOf, ByteArray.data_extract]
    simp only [list_lineOf, hx, Int.toNat_natCast] at he2
    exact absurd he2 (Sec.sec_turned hq hT hf hw hne)
end Go.Proofs.Ytbiblmpojoglmaa
