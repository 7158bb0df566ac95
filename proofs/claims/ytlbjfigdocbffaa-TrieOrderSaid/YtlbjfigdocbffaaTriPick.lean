/- trie: raw numbers: picked, as keys, as texts. -/
import Derived.Test.YtlbjfigdocbffaaTriBPut
import Derived.Test.YtlbjfigdocbffaaBytes
namespace Go.Proofs.Ytlbjfigdocbffaa
open Go.RowKit
set_option linter.unusedVariables false
set_option linter.unusedSimpArgs false

def pk (c n : Int) : Int := (if c < 0 then -(c + 1) else c) % n
theorem pk_rng (c n : Int) (h : 1 ≤ n) : 0 ≤ pk c n ∧ pk c n < n := by
  unfold pk; exact ⟨Int.emod_nonneg _ (by omega), Int.emod_lt_of_pos _ (by omega)⟩
theorem pick11_any (c n : Int) (w : World) (h1 : -9223372036854775808 ≤ c) (h2 : c ≤ 9223372036854775807) (h3 : 1 ≤ n) (h4 : n ≤ 9223372036854775807) :
    Calls Try.prog 43 #[.int .i64 c, .int .i64 n] w fun e w' => e = .returned (.int .i64 (pk c n)) ∧ w = w' := by
  by_cases hc : c < 0
  · have hp : Hid (pk c n = -((c + 1).tmod n)) := Lib.hid (by unfold pk; rw [if_pos hc, ← Int.neg_tmod, Int.tmod_eq_emod_of_nonneg (by omega)])
    go_enter Try.func43, Try.ntmps43
    go_wp2
    go_ret
    exact ⟨by rw [hp.out]; rfl, rfl⟩
  · have hp : Hid (pk c n = c % n) := Lib.hid (by unfold pk; rw [if_neg hc])
    go_enter Try.func43, Try.ntmps43
    go_wp2
    go_ret
    exact ⟨by rw [hp.out]; rfl, rfl⟩
theorem pick17_any (c n : Int) (w : World) (h1 : -9223372036854775808 ≤ c) (h2 : c ≤ 9223372036854775807) (h3 : 1 ≤ n) (h4 : n ≤ 9223372036854775807) :
    Calls Try.prog 26 #[.int .i64 c, .int .i64 n] w fun e w' => e = .returned (.int .i64 (pk c n)) ∧ w = w' := by
  by_cases hc : c < 0
  · have hp : Hid (pk c n = -((c + 1).tmod n)) := Lib.hid (by unfold pk; rw [if_pos hc, ← Int.neg_tmod, Int.tmod_eq_emod_of_nonneg (by omega)])
    go_enter Try.func26, Try.ntmps26
    go_wp2
    go_ret
    exact ⟨by rw [hp.out]; rfl, rfl⟩
  · have hp : Hid (pk c n = c % n) := Lib.hid (by unfold pk; rw [if_neg hc])
    go_enter Try.func26, Try.ntmps26
    go_wp2
    go_ret
    exact ⟨by rw [hp.out]; rfl, rfl⟩
def b8 (v : Int) : UInt8 := UInt8.ofNat v.toNat
theorem b8_val {v : Int} (h0 : 0 ≤ v) (h : v < 256) : v = (((b8 v).toNat : Nat) : Int) := by
  unfold b8
  rw [UInt8.toNat_ofNat']
  have : v.toNat % 2 ^ 8 = v.toNat := Nat.mod_eq_of_lt (by omega)
  rw [this]; omega
def rowTo (b : UInt8) (k : Nat) : List UInt8 := List.replicate k b ++ List.replicate (120 - k) 0
theorem rowTo_len (b : UInt8) {k : Nat} (h : k ≤ 120) : (rowTo b k).length = 120 := by simp [rowTo]; omega
theorem rowTo_set (b : UInt8) {k : Nat} (h : k < 120) : (rowTo b k).set k b = rowTo b (k + 1) := by
  unfold rowTo
  rw [List.set_append_right _ _ (by simp), List.length_replicate, Nat.sub_self, show 120 - k = (120 - (k + 1)) + 1 by omega, List.replicate_succ, List.set_cons_zero, List.replicate_succ' , List.append_assoc]; rfl
def blockS (n : Int) : ByteArray := lineOf (((rowTo (b8 (pk n 251)) 120).set 0 (b8 (pk n 256))).set 1 (b8 (pk n 65536 / 256)))
theorem blockS_size (n : Int) : (blockS n).size = 120 := by unfold blockS; rw [lineOf_size, List.length_set, List.length_set, rowTo_len _ (Nat.le_refl _)]
set_option maxRecDepth 100000 in
set_option maxHeartbeats 4000000 in
theorem block_any (n : Int) (w : World) (h1 : -9223372036854775808 ≤ n) (h2 : n ≤ 9223372036854775807) : Calls Try.prog 23 #[.int .i64 n] w (Same2 w (.string (blockS n))) := by
  obtain ⟨w1, hmk, hr, hb⟩ := BRow.make_run w 120 (by decide)
  have p1 := pk_rng n 251 (by decide)
  have p2 := pk_rng n 256 (by decide)
  have p3 := pk_rng n 65536 (by decide)
  have cA := fun W => pick11_any n 251 W h1 h2 (by decide) (by decide)
  have cB := fun W => pick11_any n 256 W h1 h2 (by decide) (by decide)
  have cC := fun W => pick11_any n 65536 W h1 h2 (by decide) (by decide)
  obtain ⟨g, hg⟩ : ∃ g, w.heap.size = g := ⟨_, rfl⟩
  rw [hg] at hmk hr
  replace hmk : (Instr.makeSlice 86 (.int .i64 120) (.int .i64 120)).run Try.prog w = .ok (.slice (some ⟨g, 0, none⟩) 120 120) w1 := hmk
  replace hb := hb.1
  replace hg := Lib.hid hg
  have hS : Hid (blockS n = lineOf (((rowTo (b8 (pk n 251)) 120).set 0 (b8 (pk n 256))).set 1 (b8 (pk n 65536 / 256)))) := Lib.hid rfl
  generalize blockS n = S at *
  generalize pk n 251 = a at *
  generalize pk n 256 = b at *
  generalize pk n 65536 = c at *
  have q0 : c.tdiv 256 = c / 256 := Int.tdiv_eq_ediv_of_nonneg p3.1
  have u1 : IntKind.u8.wrap a = a := IntWalk.u8_in _ (by omega)
  have u2 : IntKind.u8.wrap b = b := IntWalk.u8_in _ (by omega)
  have u3 : IntKind.u8.wrap (c.tdiv 256) = c.tdiv 256 := IntWalk.u8_in _ (by omega)
  have u4 : IntKind.i64.wrap (c.tdiv 256) = c.tdiv 256 := IntWalk.i64_in _ (by omega)
  have b1 := b8_val p1.1 (show a < 256 by omega)
  have b2 := b8_val p2.1 p2.2
  have b3 : c.tdiv 256 = (((b8 (c / 256)).toNat : Nat) : Int) := by rw [q0]; exact b8_val (by omega) (by omega)
  replace b1 := Lib.hid b1
  replace b2 := Lib.hid b2
  replace b3 := Lib.hid b3
  clear q0
  generalize b8 a = a8 at *
  generalize b8 b = b8' at *
  generalize b8 (c / 256) = c8 at *
  have hgw : w.heap.size ≤ g := by have := hg.out; omega
  go_enter Try.func23, Try.ntmps23
  go_wp2_with (fail)
  clear hmk
  go_loopw [4] (fun i W => ∃ k : Nat, k ≤ 120 ∧ i = .int .i64 (k : Int) ∧ BRow W g (rowTo a8 k) ∧ Below w.heap.size w W) (fun i _ => 120 - (intOf i).toNat)
  case atStart => exact ⟨0, Nat.zero_le _, rfl, hr, hb⟩
  case round =>
    obtain ⟨k, hk, rfl, hR, hB⟩ := hrel
    rename World => W
    clear hr hb
    by_cases hlt : k < 120
    · have y1 : (k : Int) < 120 := by omega
      have hl := rowTo_len a8 (k := k) hk
      have c1 := hR.cell (i := k) (by omega)
      have f1 := hR.frozen k
      have hR2 := hR.set (i := k) (by omega) a8 a b1.out
      rw [rowTo_set a8 hlt] at hR2
      have hB2 := hB.setCell (p := ⟨g, k, none⟩) hgw (.int .u8 a)
      go_wp2_with (fail)
      refine (cA W).mono ?_
      rintro e w' ⟨rfl, rfl⟩
      go_wp2_with (fail)
      go_roundw
      case rel => exact ⟨k + 1, by omega, by go_num, hR2, hB2⟩
      case measure => simp [intOf]; omega
    · obtain rfl : k = 120 := by omega
      have y1 : ¬ (((120 : Nat) : Int) < 120) := by omega
      have hl := rowTo_len a8 (k := 120) (Nat.le_refl _)
      have c1 := hR.cell (i := 0) (by omega)
      have f1 := hR.frozen 0
      have R1 := hR.set (i := 0) (by omega) b8' b b2.out
      have B1 := hB.setCell (p := ⟨g, 0, none⟩) hgw (.int .u8 b)
      have hl1 : ((rowTo a8 120).set 0 b8').length = 120 := by rw [List.length_set]; exact hl
      have c2 := R1.cell (i := 1) (by omega)
      have f2 := R1.frozen 1
      have R2 := R1.set (i := 1) (by omega) c8 (c.tdiv 256) b3.out
      have B2 := B1.setCell (p := ⟨g, 1, none⟩) hgw (.int .u8 (c.tdiv 256))
      have hst := R2.str 120 120 (by rw [List.length_set]; exact hl1.symm)
      rw [← hS.out] at hst
      go_wp2_with (fail)
      refine (cB W).mono ?_
      rintro e w' ⟨rfl, rfl⟩
      go_wp2_with (fail)
      refine (cC _).mono ?_
      rintro e w' ⟨rfl, rfl⟩
      go_wp2_with (fail)
      go_ret
      exact ⟨rfl, B2⟩

/-- A raw number as a key. -/
def keyN (n : Int) : Nat := if pk n 8192 < 4096 then (pk n 8192).toNat else [0, 1, 15, 16, 17, 255, 256, 4095].getD (pk n 8192 % 8).toNat 0
theorem keyN_lt (n : Int) : keyN n < 4096 := by
  unfold keyN
  have h := pk_rng n 8192 (by omega)
  split
  · omega
  · have h8 : (pk n 8192 % 8).toNat < 8 := by omega
    rcases (show (pk n 8192 % 8).toNat = 0 ∨ (pk n 8192 % 8).toNat = 1 ∨ (pk n 8192 % 8).toNat = 2 ∨ (pk n 8192 % 8).toNat = 3 ∨ (pk n 8192 % 8).toNat = 4 ∨ (pk n 8192 % 8).toNat = 5 ∨ (pk n 8192 % 8).toNat = 6 ∨ (pk n 8192 % 8).toNat = 7 by omega) with h | h | h | h | h | h | h | h <;> rw [h] <;> decide
set_option maxRecDepth 100000 in
set_option maxHeartbeats 1000000 in
theorem key_any (n : Int) (w : World) (h1 : -9223372036854775808 ≤ n) (h2 : n ≤ 9223372036854775807) : Calls Try.prog 19 #[.int .i64 n] w (Same2 w (.int .i64 (keyN n : Int))) := by
  have cp := pick17_any n 8192 w h1 h2 (by decide) (by decide)
  have hr := pk_rng n 8192 (by decide)
  have hk : Hid (keyN n = if pk n 8192 < 4096 then (pk n 8192).toNat else [0, 1, 15, 16, 17, 255, 256, 4095].getD (pk n 8192 % 8).toNat 0) := Lib.hid rfl
  generalize keyN n = kn at *
  generalize pk n 8192 = c at *
  by_cases hc : c < 4096
  · have t1 : decide (c < 4096) = true := decide_eq_true hc
    have hk2 : Hid ((kn : Int) = c) := Lib.hid (by rw [hk.out, if_pos hc]; omega)
    go_enter Try.func19, Try.ntmps19
    go_wp2_with (fail)
    refine cp.mono ?_
    rintro e w' ⟨rfl, rfl⟩
    go_wp2_with (fail)
    go_ret
    exact ⟨by rw [hk2.out]; rfl, Below.refl _ _⟩
  · have t1 : decide (c < 4096) = false := decide_eq_false hc
    obtain ⟨q, hq⟩ : ∃ q : Nat, c % 8 = (q : Int) := ⟨(c % 8).toNat, by omega⟩
    have hq8 : q < 8 := by omega
    have tm : c.tmod 8 = (q : Int) := by rw [Int.tmod_eq_emod_of_nonneg (by omega)]; exact hq
    have hk2 : Hid (kn = [0, 1, 15, 16, 17, 255, 256, 4095].getD q 0) := Lib.hid (by rw [hk.out, if_neg hc, hq]; rfl)
    have hB : Hid (Below w.heap.size w (w.alloc (.cells #[.int .i64 0, .int .i64 1, .int .i64 15, .int .i64 16, .int .i64 17, .int .i64 255, .int .i64 256, .int .i64 4095] 3))) := Lib.hid ((Below.refl _ _).alloc (Nat.le_refl _) _)
    have hcell : (w.alloc (.cells #[.int .i64 0, .int .i64 1, .int .i64 15, .int .i64 16, .int .i64 17, .int .i64 255, .int .i64 256, .int .i64 4095] 3)).cell? ⟨w.heap.size, q, none⟩ = some (.int .i64 (kn : Int)) := by
      rw [World.cell?_alloc_mark, hk2.out]
      rcases (show q = 0 ∨ q = 1 ∨ q = 2 ∨ q = 3 ∨ q = 4 ∨ q = 5 ∨ q = 6 ∨ q = 7 by omega) with h | h | h | h | h | h | h | h <;> subst h <;> rfl
    have t2 : (q : Int) < 8 := by omega
    have t3 : ¬ ((q : Int) < 0) := by omega
    clear hq hk2 hk
    go_enter Try.func19, Try.ntmps19
    go_wp2_with (fail)
    refine cp.mono ?_
    rintro e w' ⟨rfl, rfl⟩
    go_wp2_with (fail)
    go_ret
    exact ⟨rfl, hB.out⟩
end Go.Proofs.Ytlbjfigdocbffaa
