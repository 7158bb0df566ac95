/- trie: two books beside each other, in one text: a key is set in one of them, what their trees have, what is left to set. -/
import Derived.Test.YtlbjfigdocbffaaTriBPut
import Derived.Test.YtlbjfigdocbffaaTriNew
import Derived.Test.YtlbjfigdocbffaaTriCnt
import Derived.Test.YtlbjfigdocbffaaTriRight
import Derived.Test.YtlbjfigdocbffaaTriAwake
import Derived.Test.YtlbjfigdocbffaaTriOwn
namespace Go.Proofs.Ytlbjfigdocbffaa
open Go.RowKit
set_option linter.unusedVariables false
set_option linter.unusedSimpArgs false

def PutG2 (w : World) (bk rb kb tb h g m : Nat) (R : Nat → Nat) (kv tv : Nat → Value) (K : Nat → List (Nat × ByteArray)) (i : Nat) (l : List (Nat × ByteArray)) (e : Ending) (w' : World) : Prop :=
  e = .returned (.tuple #[]) ∧ ∃ a b, BkW w' bk rb kb tb h g m R (updF kv i a) (updF tv i b) (updF K i l) ∧ HTo w kb tb w' ∧ ((∀ q, a.ownBlock = some q → w.heap.size ≤ q) ∧ ∀ q, b.ownBlock = some q → w.heap.size ≤ q)
section
variable {w w' : World} {bk rb kb tb h g m : Nat} {u : Value} {R : Nat → Nat} {kv tv : Nat → Value} {K : Nat → List (Nat × ByteArray)}
set_option maxRecDepth 100000 in
set_option maxHeartbeats 4000000 in
theorem bput2_any (H : BkW w bk rb kb tb h g m R kv tv K) (A : BkA bk rb kb tb h g m u) (hgl : g < w.heap.size ∧ m < w.heap.size) (i : Nat) (hi : i < 4) (k : Nat) (hk : k ≤ 4096) (s : ByteArray) (is : Bool) (hlen : (insL k s (!is) (K i)).length ≤ 4096) :
    Calls Try.prog 25 #[.pointer (some ⟨bk, 0, none⟩), .int .i64 (i : Int), .int .i64 (k : Int), .string s, .bool is] w (PutG2 w bk rb kb tb h g m R kv tv K i (insL k s (!is) (K i))) := by
  obtain ⟨ka, kc, hkv, hkit⟩ := Reads.items (H.kr i hi)
  obtain ⟨ta, tc, htv, htit⟩ := Reads.items (H.tr i hi)
  obtain ⟨L, hL⟩ : ∃ L, L = K i := ⟨_, rfl⟩
  have hLl : L.length ≤ 4096 := by rw [hL]; exact H.len i hi
  have HC : Hid (∀ W, Below w.heap.size w W → W.cell? ⟨bk, 3, none⟩ = some (.slice (some ⟨kb, 0, none⟩) 4 4) ∧ W.cell? ⟨bk, 4, none⟩ = some (.slice (some ⟨tb, 0, none⟩) 4 4) ∧ W.cell? ⟨kb, i, none⟩ = some (.slice ka L.length kc) ∧ W.cell? ⟨tb, i, none⟩ = some (.slice ta L.length tc)) := Lib.hid fun W hW => by
    have H2 := H.below hW
    refine ⟨H2.c3, H2.c4, ?_, ?_⟩
    · rw [H2.ck hi, hkv, hL]
    · rw [H2.ct hi, htv, hL]
  have HK : Hid (∀ j (hj : j < L.length), ∃ cb co, ka = some ⟨cb, co, none⟩ ∧ ∀ W, Below w.heap.size w W → W.cell? ⟨cb, co + j, none⟩ = some (.int .i64 ((L[j].1 : Nat) : Int))) := Lib.hid fun j hj => by
    subst hL
    obtain ⟨cb, co, e1, e2, e3⟩ := hkit j hj
    exact ⟨cb, co, e1, fun W hW => (hW.cell (p := ⟨cb, co + j, none⟩) e2).trans e3⟩
  have HT : Hid (∀ j (hj : j < L.length), ∃ cb co, ta = some ⟨cb, co, none⟩ ∧ ∀ W, Below w.heap.size w W → W.cell? ⟨cb, co + j, none⟩ = some (.string L[j].2)) := Lib.hid fun j hj => by
    subst hL
    obtain ⟨cb, co, e1, e2, e3⟩ := htit j hj
    exact ⟨cb, co, e1, fun W hW => (hW.cell (p := ⟨cb, co + j, none⟩) e2).trans e3⟩
  have HW := Lib.hid H
  have HA := Lib.hid A
  have HL := Lib.hid hL
  have HG := Lib.hid hgl
  have hi4 : (i : Int) < 4 := by omega
  rw [← hL] at hlen ⊢
  have hlen' := Lib.hid hlen
  clear H A hkv htv hkit htit hL hlen hgl
  go_enter Try.func25, Try.ntmps25
  go_wp2_with (fail)
  go_loopw [10, 11, 12, 13] (fun a b d j wr => ∃ (q : Nat) (dn : Bool) (l : List (Nat × ByteArray)), q ≤ L.length ∧ j = .int .i64 (q : Int) ∧ d = .bool dn ∧ KT wr w.heap.size a b l ∧ l.length ≤ q + dn.toNat ∧ l ++ insL k s dn (L.drop q) = insL k s (!is) L ∧ Below w.heap.size w wr) (fun _ _ _ j _ => L.length - (intOf j).toNat)
  case atStart => exact ⟨0, !is, [], Nat.zero_le _, rfl, rfl, KT.nil _ _, Nat.zero_le _, by simp, Below.refl _ _⟩
  case round =>
    obtain ⟨q, dn, l, hq, rfl, rfl, hkt, hll, hins, hB⟩ := hrel
    by_cases hlt : q < L.length
    · obtain ⟨cb, co, rfl, hke⟩ := HK.out q hlt
      obtain ⟨xb, xo, rfl, hte⟩ := HT.out q hlt
      have hdrop : L.drop q = L[q] :: L.drop (q + 1) := List.drop_eq_getElem_cons hlt
      rw [hdrop, insL_cons] at hins
      clear hdrop
      have y1 : (q : Int) < (L.length : Int) := by omega
      generalize L[q] = p at *
      have HKE := Lib.hid hke
      have HTE := Lib.hid hte
      have HB := Lib.hid hB
      have HKT := Lib.hid hkt
      clear hke hte
      cases dn
      · by_cases h1 : k ≤ p.1
        · have z1 : (k : Int) ≤ (p.1 : Int) := by omega
          have z2 : decide (((p.1 : Nat) : Int) ≥ (k : Int)) = true := decide_eq_true z1
          have z3 : decide ((k : Int) ≤ ((p.1 : Nat) : Int)) = true := decide_eq_true z1
          have z4 : decide (k ≤ p.1) = true := decide_eq_true h1
          by_cases h2 : p.1 = k
          · have x1 : (((p.1 : Nat) : Int) != (k : Int)) = false := by rw [bne_eq_false_iff_eq]; omega
            have x2 : (((p.1 : Nat) : Int) == (k : Int)) = true := by rw [beq_iff_eq]; omega
            have hins' : Hid (l ++ [(k, s)] ++ insL k s true (L.drop (q + 1)) = insL k s (!is) L) := Lib.hid (by rw [← hins, z4, if_pos h2]; simp)
            clear hins h1
            obtain ⟨k3, -, kk, -⟩ := HC.out wr hB
            have ke := HKE.out wr hB
            obtain ⟨a1, u1, b1, v1, ra1, bu1, rb1, bv1, kt1⟩ := hkt.push k s hB.size (by simp [Bool.toNat] at hll; omega)
            have BU1 : Below w.heap.size w u1 := hB.trans bu1
            have BV1 : Below w.heap.size w v1 := hB.trans bv1
            obtain ⟨k31, -, kk1, -⟩ := HC.out v1 BV1
            have ke1 := HKE.out v1 BV1
            have HF : Hid (KT v1 w.heap.size a1 b1 (l ++ [(k, s)]) ∧ Below w.heap.size w v1) := Lib.hid ⟨kt1, BV1⟩
            clear kt1 bu1 bv1 BU1 BV1 hkt hB
            go_wp2_with (first | (at_builtin; refine wpList_append_run (o := ⟨some 47, _, _, _, _, _⟩) ra1 _ _ rfl rfl rfl rfl rfl ?_) | (at_builtin; refine wpList_append_run (o := ⟨some 51, _, _, _, _, _⟩) rb1 _ _ rfl rfl rfl rfl rfl ?_))
            go_roundw
            case rel => exact ⟨q + 1, true, l ++ [(k, s)], by omega, by go_num, rfl, HF.out.1, by simp [Bool.toNat] at hll ⊢; omega, by first | exact hins'.out | (rw [← hins'.out]; simp), HF.out.2⟩
            case measure => simp [intOf]; omega
          · have x1 : (((p.1 : Nat) : Int) != (k : Int)) = true := by rw [bne_iff_ne]; omega
            have x2 : (((p.1 : Nat) : Int) == (k : Int)) = false := by rw [beq_eq_false_iff_ne]; omega
            have hins' : Hid (l ++ [(k, s)] ++ [(p.1, p.2)] ++ insL k s true (L.drop (q + 1)) = insL k s (!is) L) := Lib.hid (by rw [← hins, z4, if_neg h2]; simp)
            clear hins h1
            obtain ⟨k3, -, kk, -⟩ := HC.out wr hB
            have ke := HKE.out wr hB
            obtain ⟨a1, u1, b1, v1, ra1, bu1, rb1, bv1, kt1⟩ := hkt.push k s hB.size (by simp [Bool.toNat] at hll; omega)
            have BU1 : Below w.heap.size w u1 := hB.trans bu1
            have BV1 : Below w.heap.size w v1 := hB.trans bv1
            obtain ⟨k31, -, kk1, -⟩ := HC.out v1 BV1
            have ke1 := HKE.out v1 BV1
            obtain ⟨a2, u2, b2, v2, ra2, bu2, rb2, bv2, kt2⟩ := kt1.push p.1 p.2 BV1.size (by simp [Bool.toNat] at hll ⊢; omega)
            have BU2 : Below w.heap.size w u2 := BV1.trans bu2
            have BV2 : Below w.heap.size w v2 := BV1.trans bv2
            obtain ⟨-, t42, -, tt2⟩ := HC.out u2 BU2
            have te2 := HTE.out u2 BU2
            have HF : Hid (KT v2 w.heap.size a2 b2 (l ++ [(k, s)] ++ [(p.1, p.2)]) ∧ Below w.heap.size w v2) := Lib.hid ⟨kt2, BV2⟩
            clear kt1 bu1 bv1 BU1 BV1 kt2 bu2 bv2 BU2 BV2 hkt hB
            go_wp2_with (first | (at_builtin; refine wpList_append_run (o := ⟨some 47, _, _, _, _, _⟩) ra1 _ _ rfl rfl rfl rfl rfl ?_) | (at_builtin; refine wpList_append_run (o := ⟨some 51, _, _, _, _, _⟩) rb1 _ _ rfl rfl rfl rfl rfl ?_) | (at_builtin; refine wpList_append_run (o := ⟨some 76, _, _, _, _, _⟩) ra2 _ _ rfl rfl rfl rfl rfl ?_) | (at_builtin; refine wpList_append_run (o := ⟨some 89, _, _, _, _, _⟩) rb2 _ _ rfl rfl rfl rfl rfl ?_))
            go_roundw
            case rel => exact ⟨q + 1, true, l ++ [(k, s)] ++ [(p.1, p.2)], by omega, by go_num, rfl, HF.out.1, by simp [Bool.toNat] at hll ⊢; omega, by first | exact hins'.out | (rw [← hins'.out]; simp), HF.out.2⟩
            case measure => simp [intOf]; omega
        · have z1 : ¬ ((k : Int) ≤ (p.1 : Int)) := by omega
          have z2 : decide (((p.1 : Nat) : Int) ≥ (k : Int)) = false := decide_eq_false z1
          have z3 : decide ((k : Int) ≤ ((p.1 : Nat) : Int)) = false := decide_eq_false z1
          have z4 : decide (k ≤ p.1) = false := decide_eq_false h1
          have z5 : ((p.1 : Nat) : Int) < (k : Int) := by omega
          have x1 : (((p.1 : Nat) : Int) != (k : Int)) = true := by rw [bne_iff_ne]; omega
          have x2 : (((p.1 : Nat) : Int) == (k : Int)) = false := by rw [beq_eq_false_iff_ne]; omega
          have hins' : Hid (l ++ [(p.1, p.2)] ++ insL k s false (L.drop (q + 1)) = insL k s (!is) L) := Lib.hid (by rw [← hins, z4, if_neg (show ¬ p.1 = k by omega)]; simp)
          clear hins h1
          obtain ⟨k3, -, kk, -⟩ := HC.out wr hB
          have ke := HKE.out wr hB
          obtain ⟨a2, u2, b2, v2, ra2, bu2, rb2, bv2, kt2⟩ := hkt.push p.1 p.2 hB.size (by simp [Bool.toNat] at hll; omega)
          have BU2 : Below w.heap.size w u2 := hB.trans bu2
          have BV2 : Below w.heap.size w v2 := hB.trans bv2
          obtain ⟨-, t42, -, tt2⟩ := HC.out u2 BU2
          have te2 := HTE.out u2 BU2
          have HF : Hid (KT v2 w.heap.size a2 b2 (l ++ [(p.1, p.2)]) ∧ Below w.heap.size w v2) := Lib.hid ⟨kt2, BV2⟩
          clear kt2 bu2 bv2 BU2 BV2 hkt hB
          go_wp2_with (first | (at_builtin; refine wpList_append_run (o := ⟨some 76, _, _, _, _, _⟩) ra2 _ _ rfl rfl rfl rfl rfl ?_) | (at_builtin; refine wpList_append_run (o := ⟨some 89, _, _, _, _, _⟩) rb2 _ _ rfl rfl rfl rfl rfl ?_))
          go_roundw
          case rel => exact ⟨q + 1, false, l ++ [(p.1, p.2)], by omega, by go_num, rfl, HF.out.1, by simp [Bool.toNat] at hll ⊢; omega, by first | exact hins'.out | (rw [← hins'.out]; simp), HF.out.2⟩
          case measure => simp [intOf]; omega
      · by_cases h2 : p.1 = k
        · have x1 : (((p.1 : Nat) : Int) != (k : Int)) = false := by rw [bne_eq_false_iff_eq]; omega
          have x2 : (((p.1 : Nat) : Int) == (k : Int)) = true := by rw [beq_iff_eq]; omega
          have hins' : Hid (l ++ insL k s true (L.drop (q + 1)) = insL k s (!is) L) := Lib.hid (by rw [← hins, if_pos h2]; simp)
          clear hins
          obtain ⟨k3, -, kk, -⟩ := HC.out wr hB
          have ke := HKE.out wr hB
          have HF : Hid (KT wr w.heap.size u10 u11 (l) ∧ Below w.heap.size w wr) := Lib.hid ⟨hkt, hB⟩
          clear hkt hB
          go_wp2_with (fail)
          go_roundw
          case rel => exact ⟨q + 1, true, l, by omega, by go_num, rfl, HF.out.1, by simp [Bool.toNat] at hll ⊢; omega, by first | exact hins'.out | (rw [← hins'.out]; simp), HF.out.2⟩
          case measure => simp [intOf]; omega
        · have x1 : (((p.1 : Nat) : Int) != (k : Int)) = true := by rw [bne_iff_ne]; omega
          have x2 : (((p.1 : Nat) : Int) == (k : Int)) = false := by rw [beq_eq_false_iff_ne]; omega
          have hins' : Hid (l ++ [(p.1, p.2)] ++ insL k s true (L.drop (q + 1)) = insL k s (!is) L) := Lib.hid (by rw [← hins, if_neg h2]; simp)
          clear hins
          obtain ⟨k3, -, kk, -⟩ := HC.out wr hB
          have ke := HKE.out wr hB
          obtain ⟨a2, u2, b2, v2, ra2, bu2, rb2, bv2, kt2⟩ := hkt.push p.1 p.2 hB.size (by simp [Bool.toNat] at hll; omega)
          have BU2 : Below w.heap.size w u2 := hB.trans bu2
          have BV2 : Below w.heap.size w v2 := hB.trans bv2
          obtain ⟨-, t42, -, tt2⟩ := HC.out u2 BU2
          have te2 := HTE.out u2 BU2
          have HF : Hid (KT v2 w.heap.size a2 b2 (l ++ [(p.1, p.2)]) ∧ Below w.heap.size w v2) := Lib.hid ⟨kt2, BV2⟩
          clear kt2 bu2 bv2 BU2 BV2 hkt hB
          go_wp2_with (first | (at_builtin; refine wpList_append_run (o := ⟨some 76, _, _, _, _, _⟩) ra2 _ _ rfl rfl rfl rfl rfl ?_) | (at_builtin; refine wpList_append_run (o := ⟨some 89, _, _, _, _, _⟩) rb2 _ _ rfl rfl rfl rfl rfl ?_))
          go_roundw
          case rel => exact ⟨q + 1, true, l ++ [(p.1, p.2)], by omega, by go_num, rfl, HF.out.1, by simp [Bool.toNat] at hll ⊢; omega, by first | exact hins'.out | (rw [← hins'.out]; simp), HF.out.2⟩
          case measure => simp [intOf]; omega
    · obtain rfl : q = L.length := by omega
      rw [List.drop_of_length_le (Nat.le_refl _), insL_nil] at hins
      obtain ⟨c3, c4, ck, ct⟩ := HC.out wr hB
      have y1 : ¬ ((L.length : Int) < (L.length : Int)) := by omega
      cases dn
      · obtain ⟨a1, u1, b1, v1, ra1, bu1, rb1, bv1, kt1⟩ := hkt.push k s hB.size (by simp [Bool.toNat] at hll; omega)
        have BV1 : Below w.heap.size w v1 := hB.trans bv1
        obtain ⟨c3, c4, ck, ct⟩ := HC.out v1 BV1
        have hw1 := HW.out.below BV1
        obtain ⟨x1, x2, x3, x4⟩ := hw1.lts
        have hA := HA.out
        have fk : v1.frozen? ⟨kb, i, none⟩ = false := frozen_of_row _ _ _ _ _ hw1.k
        have hap : ∀ q, (a1 : Value).ownBlock = some q → q ≠ g ∧ q ≠ m ∧ q ≠ rb ∧ q ≠ kb ∧ q ≠ tb := fun q hq => by
          obtain ⟨l1, l2, l3, l4⟩ := HW.out.lts
          obtain ⟨l5, l6⟩ := HG.out
          have := (kt1.oa.o.lt q hq).1
          omega
        have hbp : ∀ q, (b1 : Value).ownBlock = some q → q ≠ g ∧ q ≠ m ∧ q ≠ rb ∧ q ≠ kb ∧ q ≠ tb := fun q hq => by
          obtain ⟨l1, l2, l3, l4⟩ := HW.out.lts
          obtain ⟨l5, l6⟩ := HG.out
          have := (kt1.ob.o.lt q hq).1
          omega
        have hac : ∀ x n c, a1 = .slice x n c → n ≤ c := own_cap kt1.oa
        have hbc : ∀ x n c, b1 = .slice x n c → n ≤ c := own_cap kt1.ob
        have hnl : l ++ [(k, s)] = insL k s (!is) L := by rw [← hins]; simp
        have hfin : Hid (PutG2 w bk rb kb tb h g m R kv tv K i (insL k s (!is) L) (.returned (.tuple #[])) ((v1.setCell ⟨kb, i, none⟩ a1).setCell ⟨tb, i, none⟩ b1)) := Lib.hid ⟨rfl, a1, b1, hw1.setKT hA i hi a1 b1 _ (by rw [← hnl]; exact kt1.oa.reads) (by rw [← hnl]; exact kt1.ob.reads) hlen'.out hap hbp hac hbc, by
          have hq := HTo.quiet (g := kb) (m := tb) BV1
          refine ⟨⟨hq.b0.os, hq.b0.tape, hq.b0.output, by simpa using hq.b0.size, fun q hq => absurd hq (Nat.not_lt_zero _)⟩, fun q h1 h2 h3 => ?_⟩
          rw [Below.heap_setCell _ _ _ _ (fun e => h3 (by have e : q = tb := e; exact e)), Below.heap_setCell _ _ _ _ (fun e => h2 (by have e : q = kb := e; exact e))]
          exact hq.oth q h1 h2 h3, fun q hq => (kt1.oa.o.lt q hq).1, fun q hq => (kt1.ob.o.lt q hq).1⟩
        have ct2 : (v1.setCell ⟨kb, i, none⟩ a1).cell? ⟨tb, i, none⟩ = some (.slice ta L.length tc) := by
          rw [← ct]
          exact cell_of_heap (Below.heap_setCell _ _ _ _ (fun e => hA.kt (by have e : tb = kb := e; exact e.symm))) i
        have c42 : (v1.setCell ⟨kb, i, none⟩ a1).cell? ⟨bk, 4, none⟩ = some (.slice (some ⟨tb, 0, none⟩) 4 4) := by
          rw [← c4]
          exact cell_of_heap (Below.heap_setCell _ _ _ _ (fun e => hA.bk_ (by have e : bk = kb := e; exact e))) 4
        have ft2 : (v1.setCell ⟨kb, i, none⟩ a1).frozen? ⟨tb, i, none⟩ = false := by
          rw [World.frozen?_setCell]; exact frozen_of_row _ _ _ _ _ hw1.t
        have sa : ∃ x n c, a1 = .slice x n c := by
          rcases kt1.oa.o.2 with ⟨e, _⟩ | ⟨_, _, _, e, _⟩ <;> exact ⟨_, _, _, e⟩
        have sb : ∃ x n c, b1 = .slice x n c := by
          rcases kt1.ob.o.2 with ⟨e, _⟩ | ⟨_, _, _, e, _⟩ <;> exact ⟨_, _, _, e⟩
        obtain ⟨xa, na, ca, rfl⟩ := sa
        obtain ⟨xb, nb, cb, rfl⟩ := sb
        clear hw1 hap hbp hac hbc hA x1 x2 x3 x4 hkt hB hins hnl kt1 bu1 bv1 BV1
        go_wp2_with (first | (at_builtin; refine wpList_append_run (o := ⟨some 95, _, _, _, _, _⟩) ra1 _ _ rfl rfl rfl rfl rfl ?_) | (at_builtin; refine wpList_append_run (o := ⟨some 99, _, _, _, _, _⟩) rb1 _ _ rfl rfl rfl rfl rfl ?_))
        go_end0
        exact hfin.out
      · have hw1 := HW.out.below hB
        obtain ⟨x1, x2, x3, x4⟩ := hw1.lts
        have hA := HA.out
        have fk : wr.frozen? ⟨kb, i, none⟩ = false := frozen_of_row _ _ _ _ _ hw1.k
        have hap : ∀ q, (u10 : Value).ownBlock = some q → q ≠ g ∧ q ≠ m ∧ q ≠ rb ∧ q ≠ kb ∧ q ≠ tb := fun q hq => by
          obtain ⟨l1, l2, l3, l4⟩ := HW.out.lts
          obtain ⟨l5, l6⟩ := HG.out
          have := (hkt.oa.o.lt q hq).1
          omega
        have hbp : ∀ q, (u11 : Value).ownBlock = some q → q ≠ g ∧ q ≠ m ∧ q ≠ rb ∧ q ≠ kb ∧ q ≠ tb := fun q hq => by
          obtain ⟨l1, l2, l3, l4⟩ := HW.out.lts
          obtain ⟨l5, l6⟩ := HG.out
          have := (hkt.ob.o.lt q hq).1
          omega
        have hac : ∀ x n c, u10 = .slice x n c → n ≤ c := own_cap hkt.oa
        have hbc : ∀ x n c, u11 = .slice x n c → n ≤ c := own_cap hkt.ob
        have hnl : l = insL k s (!is) L := by rw [← hins]; simp
        have hfin : Hid (PutG2 w bk rb kb tb h g m R kv tv K i (insL k s (!is) L) (.returned (.tuple #[])) ((wr.setCell ⟨kb, i, none⟩ u10).setCell ⟨tb, i, none⟩ u11)) := Lib.hid ⟨rfl, u10, u11, hw1.setKT hA i hi u10 u11 _ (by rw [← hnl]; exact hkt.oa.reads) (by rw [← hnl]; exact hkt.ob.reads) hlen'.out hap hbp hac hbc, by
          have hq := HTo.quiet (g := kb) (m := tb) hB
          refine ⟨⟨hq.b0.os, hq.b0.tape, hq.b0.output, by simpa using hq.b0.size, fun q hq => absurd hq (Nat.not_lt_zero _)⟩, fun q h1 h2 h3 => ?_⟩
          rw [Below.heap_setCell _ _ _ _ (fun e => h3 (by have e : q = tb := e; exact e)), Below.heap_setCell _ _ _ _ (fun e => h2 (by have e : q = kb := e; exact e))]
          exact hq.oth q h1 h2 h3, fun q hq => (hkt.oa.o.lt q hq).1, fun q hq => (hkt.ob.o.lt q hq).1⟩
        have ct2 : (wr.setCell ⟨kb, i, none⟩ u10).cell? ⟨tb, i, none⟩ = some (.slice ta L.length tc) := by
          rw [← ct]
          exact cell_of_heap (Below.heap_setCell _ _ _ _ (fun e => hA.kt (by have e : tb = kb := e; exact e.symm))) i
        have c42 : (wr.setCell ⟨kb, i, none⟩ u10).cell? ⟨bk, 4, none⟩ = some (.slice (some ⟨tb, 0, none⟩) 4 4) := by
          rw [← c4]
          exact cell_of_heap (Below.heap_setCell _ _ _ _ (fun e => hA.bk_ (by have e : bk = kb := e; exact e))) 4
        have ft2 : (wr.setCell ⟨kb, i, none⟩ u10).frozen? ⟨tb, i, none⟩ = false := by
          rw [World.frozen?_setCell]; exact frozen_of_row _ _ _ _ _ hw1.t
        have sa : ∃ x n c, u10 = .slice x n c := by
          rcases hkt.oa.o.2 with ⟨e, _⟩ | ⟨_, _, _, e, _⟩ <;> exact ⟨_, _, _, e⟩
        have sb : ∃ x n c, u11 = .slice x n c := by
          rcases hkt.ob.o.2 with ⟨e, _⟩ | ⟨_, _, _, e, _⟩ <;> exact ⟨_, _, _, e⟩
        obtain ⟨xa, na, ca, rfl⟩ := sa
        obtain ⟨xb, nb, cb, rfl⟩ := sb
        clear hw1 hap hbp hac hbc hA x1 x2 x3 x4 hkt hB hins hnl
        go_wp2_with (fail)
        go_end0
        exact hfin.out
end

section
variable {w w' : World} {bk rb kb tb h g m : Nat} {u : Value} {Y : Tri.TW ByteArray} {Z : Int → Bool} {R : Nat → Nat} {G : Nat → Prop} {lv pos : Nat → Nat} {kv tv : Nat → Value}
/-- A key of the first tree was set. -/
def SetG (w : World) (bk rb kb tb h g m : Nat) (u : Value) (Y : Tri.TW ByteArray) (R : Nat → Nat) (kv tv : Nat → Value) (key : Nat) (s : ByteArray) (e : Ending) (w' : World) : Prop :=
  e = .returned (.bool true) ∧ BTo w g m rb kb tb w' ∧ ∃ Y' Z' R' G' lv' pos' va vb, Bk w' bk rb kb tb h g m u Y' Z' R' G' lv' pos' (updF kv 0 va) (updF tv 0 vb) ∧ ((∀ q, va.ownBlock = some q → w.heap.size ≤ q) ∧ ∀ q, vb.ownBlock = some q → w.heap.size ≤ q) ∧ (∀ k, treeF Y'.σ.e Y'.T (R' 0) k = if k % 4096 = key then some s else treeF Y.σ.e Y.T (R 0) k) ∧ ∀ i, i ≠ 0 → R' i = R i
set_option maxRecDepth 100000 in
set_option maxHeartbeats 8000000 in
theorem tset_any (B : Bk w bk rb kb tb h g m u Y Z R G lv pos kv tv) (key : Nat) (hkey : key < 4096) (x : Int) (hx1 : -9223372036854775808 ≤ x) (hx2 : x ≤ 9223372036854775807) (hroom : usedTo (cOf Y.σ.c) 200 + 4 ≤ 200) :
    Calls Try.prog 20 #[.pointer (some ⟨bk, 0, none⟩), .int .i64 (key : Int), .int .i64 x] w (SetG w bk rb kb tb h g m u Y R kv tv key (blockS x)) := by
  obtain ⟨t, ht, ht0, htl, t3, r, Y', Z', G', lv', pos', ts', hsb, htf, hset⟩ := ts_set_z (at_ := 0) h g m u Z B.ts (by omega) hkey (blockS x) hroom
  have hts := Lib.hid ts'
  have hbs := blockS_size x
  have hF : Hid (∀ k, treeF Y'.σ.e Y'.T (updF R 0 r 0) k = if k % 4096 = key then some (blockS x) else treeF Y.σ.e Y.T (R 0) k) := Lib.hid fun k => by rw [updF_same]; exact htf k
  have hk4 : Hid (insL key (blockS x) false (treeL Y.σ.e Y.T (R 0)) = treeL Y'.σ.e Y'.T r) := Lib.hid (ins_tree hkey htf)
  have hko : Hid (∀ i, i < 4 → updF (fun i => treeL Y.σ.e Y.T (R i)) 0 (insL key (blockS x) false (treeL Y.σ.e Y.T (R 0))) i = treeL Y'.σ.e Y'.T (updF R 0 r i)) := Lib.hid (keysOther hsb hk4.out)
  have cal := alloc_some g 200 (cOf Y.σ.c) w B.hp.t B.hp.small t ht ht0 htl
  have cbl := Lib.hid (fun W => block_any x W hx1 hx2)
  have HSET := Lib.hid hset
  have hA := Lib.hid B.A
  have HB := Lib.hid B
  have d0 := B.bw.c0
  clear hset ts' hsb htf B
  generalize blockS x = bs at *
  go_enter Try.func20, Try.ntmps20
  go_wp2_with (fail)
  refine cal.mono ?_
  rintro e w4 ⟨rfl, T4⟩
  have hp4 : Hp w4 h g m 200 u (cOf (upd Y.σ.c t 1)) Z Y.T := by
    have := HB.out.hp.tab T4 (small_upd HB.out.hp.small ht (by omega))
    rw [cOf_upd _ t3] at this; exact this
  have bw4 := HB.out.bw.to hA.out (HTo.tab (m := m) T4)
  have B4 : BTo w g m rb kb tb w4 := BTo.hto (HTo.tab T4)
  have D4 : Below w4.heap.size w4 w4.drew := ⟨rfl, rfl, rfl, Nat.le_refl _, fun _ _ => rfl⟩
  have HS : Hid (∀ W, HTo w4.drew g m W → W.cell? ⟨bk, 1, none⟩ = some (.pointer (some ⟨h, 0, none⟩))) := Lib.hid fun W hW => ((bw4.below D4).to hA.out hW).c1
  have cb5 := cbl.out w4.drew
  have hput : Hid (∀ W, Hp W h g m 200 u (cOf (upd Y.σ.c t 1)) Z Y.T → Calls Try.prog 22 #[.pointer (some ⟨h, 0, none⟩), .int .i64 (t : Int), .string bs] W (HpG W h g m 200 u (cOf (upd Y.σ.c t 1)) (updZ Z (t : Int) true) (updX Y.T t bs) (.int .i64 0))) := Lib.hid fun W ⟨F, hW⟩ => put_good hW t t3 ht (by rw [cOf_hi t3]; show 0 < upd _ _ _ _; unfold upd; rw [if_pos rfl]; omega) bs hbs
  have Hp4 := Lib.hid (hp4.below D4)
  have Hw4 := Lib.hid (bw4.below D4)
  have HB4 := Lib.hid (B4.trans (BTo.quiet D4))
  clear T4 hp4 bw4 B4 D4 cal HB d0
  go_upto_region 2 with (fail)
  refine wp_region_held_drew (S := fun W => W.cell? ⟨bk, 1, none⟩ = some (.pointer (some ⟨h, 0, none⟩))) (by kernel_rfl) (HS.out _ (HTo.refl _ _ _)) (fun hHeld => ?_)
  refine wpAnyH_takeD (i := 0) (some 20) rfl (by kernel_rfl) (by kernel_rfl) (by kernel_rfl) rfl (fun _ _ _ h => h) (Or.inl ⟨by rfl, by rintro w hs1; go_simp; try rfl⟩) (by assumption) ?_
  simp only [Act.put, List.setIfInBounds_toArray, List.set_cons_zero, List.set_cons_succ]
  refine wpAnyH_takeD (i := 1) (some 21) rfl (by kernel_rfl) (by kernel_rfl) (by kernel_rfl) rfl (fun _ _ _ h => h) (Or.inl ⟨by rfl, by rintro w hs1; go_simp; try rfl⟩) (by assumption) ?_
  simp only [Act.put, List.setIfInBounds_toArray, List.set_cons_zero, List.set_cons_succ]
  refine wpAnyH_takeD (i := 2) (some 22) rfl (by kernel_rfl) (by kernel_rfl) (by kernel_rfl) rfl (fun _ _ _ h => h) (Or.inl ⟨by rfl, by rintro w hs1; go_simp; try rfl⟩) (by assumption) ?_
  simp only [Act.put, List.setIfInBounds_toArray, List.set_cons_zero, List.set_cons_succ]
  refine wpAnyH_takeD (i := 3) (some 23) rfl (by kernel_rfl) (by kernel_rfl) (by kernel_rfl) rfl (fun _ _ _ h => h) (Or.inl ⟨by rfl, by rintro w hs1; go_simp; try rfl⟩) (by assumption) ?_
  simp only [Act.put, List.setIfInBounds_toArray, List.set_cons_zero, List.set_cons_succ]
  refine wpAnyH_takeD (i := 4) (some 24) rfl (by kernel_rfl) (by kernel_rfl) (by kernel_rfl) rfl (fun _ _ _ h => h) (Or.inl ⟨by rfl, by rintro w hs1; go_simp; try rfl⟩) (by assumption) ?_
  simp only [Act.put, List.setIfInBounds_toArray, List.set_cons_zero, List.set_cons_succ]
  refine wpAnyH_takeD (i := 5) (some 25) rfl (by kernel_rfl) (by kernel_rfl) (by kernel_rfl) rfl (fun _ _ _ h => h) (Or.inl ⟨by rfl, by rintro w hs1; go_simp; try rfl⟩) (by assumption) ?_
  simp only [Act.put, List.setIfInBounds_toArray, List.set_cons_zero, List.set_cons_succ]
  refine wpAnyH_ready (rs := [6]) (by kernel_rfl) (by simp) ?_
  refine AllReadyH.cons rfl (fun K hK => ?_) AllReadyH.nil
  go_simp
  refine cb5.mono ?_
  rintro x w5 ⟨rfl, q5⟩
  refine hK.out _ _ (HS.out _ (HTo.quiet q5)) (fun hHeld => ?_)
  clear hK
  try simp only [Act.put, List.setIfInBounds_toArray, List.set_cons_zero, List.set_cons_succ]
  have cp6 := hput.out w5 (Hp4.out.below q5)
  have Hq5 := Lib.hid q5
  clear q5 cb5
  refine wpAnyH_ready (rs := [7]) (by kernel_rfl) (by simp) ?_
  refine AllReadyH.cons rfl (fun K hK => ?_) AllReadyH.nil
  go_simp
  refine cp6.mono ?_
  rintro x w6 ⟨rfl, T6, hp6⟩
  have T56 : HTo w4.drew g m w6 := (HTo.quiet Hq5.out).trans T6
  refine hK.out _ _ (HS.out _ T56) (fun hHeld => ?_)
  clear hK
  try simp only [Act.put, List.setIfInBounds_toArray, List.set_cons_zero, List.set_cons_succ]
  refine wpAnyH_takeD (i := 8) (v := Value.int .i64 0) (some 9) rfl (by kernel_rfl) (by kernel_rfl) (by kernel_rfl) rfl (fun _ _ _ h => h) (Or.inl ⟨by rfl, by rintro w hs1; go_simp; try rfl⟩) (by assumption) ?_
  simp only [Act.put, List.setIfInBounds_toArray, List.set_cons_zero, List.set_cons_succ]
  refine wpAnyH_done (by kernel_rfl) ?_ _
  have D6 : Below w6.heap.size w6 w6.drew := ⟨rfl, rfl, rfl, Nat.le_refl _, fun _ _ => rfl⟩
  have bw6 := (Hw4.out.to hA.out T56).below D6
  have B6 : BTo w g m rb kb tb w6.drew := (HB4.out.trans (BTo.hto T56)).trans (BTo.quiet D6)
  have HS6 : Hid (∀ W, HTo w6.drew g m W → W.cell? ⟨bk, 1, none⟩ = some (.pointer (some ⟨h, 0, none⟩)) ∧ W.cell? ⟨bk, 2, none⟩ = some (.slice (some ⟨rb, 0, none⟩) 4 4) ∧ W.cell? ⟨rb, 0, none⟩ = some (.int .i64 (R 0 : Int))) := Lib.hid fun W hW => by
    have H2 := bw6.to hA.out hW
    exact ⟨H2.c1, H2.c2, H2.cr (by omega)⟩
  have cset := HSET.out w6.drew (hp6.below D6)
  have Hw6 := Lib.hid bw6
  have HB6 := Lib.hid B6
  clear T6 T56 hp6 bw6 B6 cp6 Hq5 Hw4 HB4 Hp4 D6
  go_upto_region 3 with (fail)
  refine wp_region_held_drew (S := fun W => W.cell? ⟨bk, 1, none⟩ = some (.pointer (some ⟨h, 0, none⟩)) ∧ W.cell? ⟨bk, 2, none⟩ = some (.slice (some ⟨rb, 0, none⟩) 4 4) ∧ W.cell? ⟨rb, 0, none⟩ = some (.int .i64 (R 0 : Int))) (by kernel_rfl) (HS6.out _ (HTo.refl _ _ _)) (fun hHeld => ?_)
  refine wpAnyH_takeD (i := 0) (some 29) rfl (by kernel_rfl) (by kernel_rfl) (by kernel_rfl) rfl (fun _ _ _ h => h) (Or.inl ⟨by rfl, by rintro w ⟨hs1, hs2, hs3⟩; go_simp; try rfl⟩) (by assumption) ?_
  simp only [Act.put, List.setIfInBounds_toArray, List.set_cons_zero, List.set_cons_succ]
  refine wpAnyH_takeD (i := 1) (some 30) rfl (by kernel_rfl) (by kernel_rfl) (by kernel_rfl) rfl (fun _ _ _ h => h) (Or.inl ⟨by rfl, by rintro w ⟨hs1, hs2, hs3⟩; go_simp; try rfl⟩) (by assumption) ?_
  simp only [Act.put, List.setIfInBounds_toArray, List.set_cons_zero, List.set_cons_succ]
  refine wpAnyH_takeD (i := 2) (some 31) rfl (by kernel_rfl) (by kernel_rfl) (by kernel_rfl) rfl (fun _ _ _ h => h) (Or.inl ⟨by rfl, by rintro w ⟨hs1, hs2, hs3⟩; go_simp; try rfl⟩) (by assumption) ?_
  simp only [Act.put, List.setIfInBounds_toArray, List.set_cons_zero, List.set_cons_succ]
  refine wpAnyH_takeD (i := 3) (some 32) rfl (by kernel_rfl) (by kernel_rfl) (by kernel_rfl) rfl (fun _ _ _ h => h) (Or.inl ⟨by rfl, by rintro w ⟨hs1, hs2, hs3⟩; go_simp; try rfl⟩) (by assumption) ?_
  simp only [Act.put, List.setIfInBounds_toArray, List.set_cons_zero, List.set_cons_succ]
  refine wpAnyH_takeD (i := 4) (some 33) rfl (by kernel_rfl) (by kernel_rfl) (by kernel_rfl) rfl (fun _ _ _ h => h) (Or.inl ⟨by rfl, by rintro w ⟨hs1, hs2, hs3⟩; go_simp; try rfl⟩) (by assumption) ?_
  simp only [Act.put, List.setIfInBounds_toArray, List.set_cons_zero, List.set_cons_succ]
  refine wpAnyH_takeD (i := 5) (some 34) rfl (by kernel_rfl) (by kernel_rfl) (by kernel_rfl) rfl (fun _ _ _ h => h) (Or.inl ⟨by rfl, by rintro w ⟨hs1, hs2, hs3⟩; go_simp; try rfl⟩) (by assumption) ?_
  simp only [Act.put, List.setIfInBounds_toArray, List.set_cons_zero, List.set_cons_succ]
  refine wpAnyH_takeD (i := 6) (some 35) rfl (by kernel_rfl) (by kernel_rfl) (by kernel_rfl) rfl (fun _ _ _ h => h) (Or.inl ⟨by rfl, by rintro w ⟨hs1, hs2, hs3⟩; go_simp; try rfl⟩) (by assumption) ?_
  simp only [Act.put, List.setIfInBounds_toArray, List.set_cons_zero, List.set_cons_succ]
  refine wpAnyH_takeD (i := 7) (some 36) rfl (by kernel_rfl) (by kernel_rfl) (by kernel_rfl) rfl (fun _ _ _ h => h) (Or.inl ⟨by rfl, by rintro w ⟨hs1, hs2, hs3⟩; go_simp; try rfl⟩) (by assumption) ?_
  simp only [Act.put, List.setIfInBounds_toArray, List.set_cons_zero, List.set_cons_succ]
  refine wpAnyH_takeD (i := 8) (some 37) rfl (by kernel_rfl) (by kernel_rfl) (by kernel_rfl) rfl (fun _ _ _ h => h) (Or.inl ⟨by rfl, by rintro w ⟨hs1, hs2, hs3⟩; go_simp; try rfl⟩) (by assumption) ?_
  simp only [Act.put, List.setIfInBounds_toArray, List.set_cons_zero, List.set_cons_succ]
  refine wpAnyH_takeD (i := 9) (some 38) rfl (by kernel_rfl) (by kernel_rfl) (by kernel_rfl) rfl (fun _ _ _ h => h) (Or.inl ⟨by rfl, by rintro w ⟨hs1, hs2, hs3⟩; go_simp; try rfl⟩) (by assumption) ?_
  simp only [Act.put, List.setIfInBounds_toArray, List.set_cons_zero, List.set_cons_succ]
  refine wpAnyH_takeD (i := 10) (some 39) rfl (by kernel_rfl) (by kernel_rfl) (by kernel_rfl) rfl (fun _ _ _ h => h) (Or.inl ⟨by rfl, by rintro w ⟨hs1, hs2, hs3⟩; go_simp; try rfl⟩) (by assumption) ?_
  simp only [Act.put, List.setIfInBounds_toArray, List.set_cons_zero, List.set_cons_succ]
  refine wpAnyH_takeD (i := 11) (some 40) rfl (by kernel_rfl) (by kernel_rfl) (by kernel_rfl) rfl (fun _ _ _ h => h) (Or.inl ⟨by rfl, by rintro w ⟨hs1, hs2, hs3⟩; go_simp; try rfl⟩) (by assumption) ?_
  simp only [Act.put, List.setIfInBounds_toArray, List.set_cons_zero, List.set_cons_succ]
  refine wpAnyH_ready (rs := [12]) (by kernel_rfl) (by simp) ?_
  refine AllReadyH.cons rfl (fun K hK => ?_) AllReadyH.nil
  go_simp
  refine cset.mono ?_
  rintro x w7 ⟨rfl, T7, hp7⟩
  refine hK.out _ _ (HS6.out _ T7) (fun hHeld => ?_)
  clear hK
  try simp only [Act.put, List.setIfInBounds_toArray, List.set_cons_zero, List.set_cons_succ]
  refine wpAnyH_takeD (i := 13) (v := Value.tuple #[.int .i64 (r : Int), .int .i64 0]) (some 28) rfl (by kernel_rfl) (by kernel_rfl) (by kernel_rfl) rfl (fun _ _ _ h => h) (Or.inl ⟨by rfl, by rintro w ⟨hs1, hs2, hs3⟩; go_simp; try rfl⟩) (by assumption) ?_
  simp only [Act.put, List.setIfInBounds_toArray, List.set_cons_zero, List.set_cons_succ]
  refine wpAnyH_takeD (i := 14) (v := Value.int .i64 (r : Int)) (some 42) rfl (by kernel_rfl) (by kernel_rfl) (by kernel_rfl) rfl (fun _ _ _ h => h) (Or.inl ⟨by rfl, by rintro w ⟨hs1, hs2, hs3⟩; go_simp; try rfl⟩) (by assumption) ?_
  simp only [Act.put, List.setIfInBounds_toArray, List.set_cons_zero, List.set_cons_succ]
  refine wpAnyH_takeD (i := 15) (v := Value.int .i64 0) (some 43) rfl (by kernel_rfl) (by kernel_rfl) (by kernel_rfl) rfl (fun _ _ _ h => h) (Or.inl ⟨by rfl, by rintro w ⟨hs1, hs2, hs3⟩; go_simp; try rfl⟩) (by assumption) ?_
  simp only [Act.put, List.setIfInBounds_toArray, List.set_cons_zero, List.set_cons_succ]
  refine wpAnyH_takeD (i := 16) (v := Value.int .i64 (r : Int)) (some 10) rfl (by kernel_rfl) (by kernel_rfl) (by kernel_rfl) rfl (fun _ _ _ h => h) (Or.inl ⟨by rfl, by rintro w ⟨hs1, hs2, hs3⟩; go_simp; try rfl⟩) (by assumption) ?_
  simp only [Act.put, List.setIfInBounds_toArray, List.set_cons_zero, List.set_cons_succ]
  refine wpAnyH_takeD (i := 17) (v := Value.int .i64 0) (some 11) rfl (by kernel_rfl) (by kernel_rfl) (by kernel_rfl) rfl (fun _ _ _ h => h) (Or.inl ⟨by rfl, by rintro w ⟨hs1, hs2, hs3⟩; go_simp; try rfl⟩) (by assumption) ?_
  simp only [Act.put, List.setIfInBounds_toArray, List.set_cons_zero, List.set_cons_succ]
  refine wpAnyH_done (by kernel_rfl) ?_ _
  have bw7 := Hw6.out.to hA.out T7
  have B7 : BTo w g m rb kb tb w7 := HB6.out.trans (BTo.hto T7)
  have e2 := bw7.c2
  have er := bw7.cr (i := 0) (by omega)
  have fr : w7.frozen? ⟨rb, 0, none⟩ = false := frozen_of_row _ _ _ _ _ bw7.r
  have bw8 := bw7.setR hA.out 0 r
  have hp8 := hp_row hp7 hA.out 0 (.int .i64 (r : Int)) (rb := rb) (bk := bk) (kb := kb) (tb := tb)
  have B8 := B7.trans (BTo.row (g := g) (m := m) (rb := rb) (kb := kb) (tb := tb) 0 (.int .i64 (r : Int)))
  obtain ⟨w8, hw8⟩ : ∃ w8, w8 = w7.setCell ⟨rb, 0, none⟩ (.int .i64 (r : Int)) := ⟨_, rfl⟩
  rw [← hw8] at bw8 hp8 B8
  have cb8 := cbl.out w8
  have Hw8 := Lib.hid bw8
  have Hp8 := Lib.hid hp8
  have HB8 := Lib.hid B8
  clear T7 bw7 B7 hp7 cset Hw6 HB6 bw8 hp8 B8
  go_upto_region 5 with (fail)
  rw [← hw8]
  clear hw8
  go_wp2_with (fail)
  refine cb8.mono ?_
  rintro e w9 ⟨rfl, q9⟩
  have bw9 := Hw8.out.below q9
  have hp9 := Hp8.out.below q9
  have cput := bput2_any bw9 hA.out ⟨hp9.lts g (.inr (.inl rfl)), hp9.lts m (.inr (.inr (.inl rfl)))⟩ 0 (by omega) key (by omega) bs true (by
    show (insL key bs false (treeL Y.σ.e Y.T (R 0))).length ≤ 4096
    rw [hk4.out]; exact treeL_len _ _ _)
  have Hp9 := Lib.hid hp9
  have HB9 := Lib.hid (HB8.out.trans (BTo.quiet (rb := rb) (kb := kb) (tb := tb) (g := g) (m := m) q9))
  clear q9 bw9 hp9 cb8 Hw8 HB8 Hp8
  go_wp2_with (fail)
  refine cput.mono ?_
  rintro e w10 ⟨rfl, va, vb, bw10, T10, hva, hvb⟩
  have hfin : Hid (SetG w bk rb kb tb h g m u Y R kv tv key bs (.returned (.bool true)) w10) := Lib.hid ⟨rfl, HB9.out.trans (BTo.kto T10), Y', Z', updF R 0 r, G', lv', pos', va, vb, ⟨bw10.congrK hko.out, hp_kto Hp9.out hA.out T10, hts.out, hA.out⟩, ⟨fun q hq => Nat.le_trans HB9.out.size (hva q hq), fun q hq => Nat.le_trans HB9.out.size (hvb q hq)⟩, hF.out, fun i hi => updF_other hi⟩
  clear bw10 T10 cput HB9 Hp9
  go_wp2_with (fail)
  go_ret
  exact hfin.out
end

def GivesB2 (w : World) (x : Ending) (w' : World) : Prop := ∃ bk rb kb tb h g m u Y Z R G lv pos kv tv, x = .returned (.pointer (some ⟨bk, 0, none⟩)) ∧ Bk w' bk rb kb tb h g m u Y Z R G lv pos kv tv ∧ Below w.heap.size w w' ∧ (w.heap.size ≤ rb ∧ w.heap.size ≤ kb ∧ w.heap.size ≤ tb ∧ w.heap.size ≤ g ∧ w.heap.size ≤ m) ∧ Y = Y00 ∧ R = (fun _ => 0) ∧ kv = (fun _ => .slice none 0 0) ∧ tv = (fun _ => .slice none 0 0) ∧ w.heap.size ≤ bk ∧ w.heap.size ≤ h ∧ ∀ q, u.ownBlock = some q → w.heap.size ≤ q
theorem begins_fin2 {w w3 W : World} {g m h rb kb tb bk : Nat} {u : Value} (hp : Hp w3 h g m 200 u cnt0 (fun _ => false) (fun _ => zero120)) (hw : Below w.heap.size w w3) (hg : w.heap.size ≤ g) (hm : w.heap.size ≤ m) (hh : w.heap.size ≤ h) (huo : ∀ q, u.ownBlock = some q → w.heap.size ≤ q) (hb3 : Below w3.heap.size w3 W)
    (hd : (w3.heap.size ≤ rb ∧ w3.heap.size ≤ kb ∧ w3.heap.size ≤ tb ∧ w3.heap.size ≤ bk) ∧ (rb ≠ kb ∧ rb ≠ tb ∧ kb ≠ tb ∧ bk ≠ rb ∧ bk ≠ kb ∧ bk ≠ tb))
    (hb : W.heap[bk]? = some (.cells #[.pointer (some ⟨g, 0, none⟩), .pointer (some ⟨h, 0, none⟩), .slice (some ⟨rb, 0, none⟩) 4 4, .slice (some ⟨kb, 0, none⟩) 4 4, .slice (some ⟨tb, 0, none⟩) 4 4] 34 (0, 0)))
    (hr : W.heap[rb]? = some (.cells #[.int .i64 0, .int .i64 0, .int .i64 0, .int .i64 0] 3 (0, 0))) (hk : W.heap[kb]? = some (.cells #[.slice none 0 0, .slice none 0 0, .slice none 0 0, .slice none 0 0] 28 (0, 0))) (ht : W.heap[tb]? = some (.cells #[.slice none 0 0, .slice none 0 0, .slice none 0 0, .slice none 0 0] 54 (0, 0))) :
    GivesB2 w (.returned (.pointer (some ⟨bk, 0, none⟩))) W := by
  have l1 := hp.lts g (.inr (.inl rfl)); have l2 := hp.lts m (.inr (.inr (.inl rfl))); have l3 := hp.lts h (.inl rfl)
  have hs := hw.size
  obtain ⟨⟨d1, d2, d3, d4⟩, d5, d6, d7, d8, d9, d10⟩ := hd
  have A : BkA bk rb kb tb h g m u := ⟨d8, d9, d10, d5, d6, d7, by omega, by omega, by omega, by omega, by omega, by omega, by omega, fun q hq => by have := hp.blk q hq; omega⟩
  exact ⟨bk, rb, kb, tb, h, g, m, u, _, _, _, _, _, _, _, _, rfl, bk_new A (hp.below hb3) hb hr hk ht, hw.trans (hb3.mono hs), ⟨by omega, by omega, by omega, hg, hm⟩, rfl, rfl, rfl, rfl, by omega, hh, huo⟩
set_option maxRecDepth 100000 in
set_option maxHeartbeats 2000000 in
theorem begins2_any (w : World) : Calls Try.prog 9 #[] w (GivesB2 w) := by
  have cn := new_good 200 w (by decide) (by decide)
  go_enter Try.func9, Try.ntmps9
  go_wp2_with (fail)
  refine cn.mono ?_
  rintro e w1 ⟨rfl, b1, t1⟩
  have cb := blank17_any 200 w1 (by decide)
  go_wp2_with (fail)
  refine cb.mono ?_
  rintro e w2 ⟨u, rfl, o2, b2⟩
  have t2 := t1.below b2 t1.lt
  have hsm : Small 200 cnt0 := ⟨by decide, by decide, fun i => by unfold cnt0; split <;> omega, fun i hi => by unfold cnt0; rw [if_neg (by omega)]⟩
  have cnw := tnew_any w2 w.heap.size 200 u cnt0 t2 hsm o2.reads (fun k hk => ⟨(o2.o.lt k hk).2, by have := (o2.o.lt k hk).1; have := t1.lt; omega⟩)
  go_wp2_with (fail)
  refine cnw.mono ?_
  rintro e w3 ⟨rfl, b3, hp3⟩
  have b13 : Below w.heap.size w w3 := b1.trans ((b2.trans (b3.mono b2.size)).mono b1.size)
  have hgw := t1.lt
  have hsz1 := b1.size
  have hsz2 := b2.size
  have hsz3 := b3.size
  have hul := fun k (hk : u.ownBlock = some k) => o2.o.lt k hk
  have m1 : ∀ W : World, (Instr.makeSlice 28 (.int .i64 4) (.int .i64 4)).run Try.prog W = .ok (.slice (some ⟨W.heap.size, 0, none⟩) 4 4) (W.alloc (.cells #[.int .i64 0, .int .i64 0, .int .i64 0, .int .i64 0] 3)) := fun W => by kernel_rfl
  have m2 : ∀ W : World, (Instr.makeSlice 31 (.int .i64 4) (.int .i64 4)).run Try.prog W = .ok (.slice (some ⟨W.heap.size, 0, none⟩) 4 4) (W.alloc (.cells #[.slice none 0 0, .slice none 0 0, .slice none 0 0, .slice none 0 0] 28)) := fun W => by kernel_rfl
  have m3 : ∀ W : World, (Instr.makeSlice 32 (.int .i64 4) (.int .i64 4)).run Try.prog W = .ok (.slice (some ⟨W.heap.size, 0, none⟩) 4 4) (W.alloc (.cells #[.slice none 0 0, .slice none 0 0, .slice none 0 0, .slice none 0 0] 54)) := fun W => by kernel_rfl
  have H3 := Lib.hid hp3
  have HO : Hid (∀ q, u.ownBlock = some q → w.heap.size ≤ q) := Lib.hid fun q hq => Nat.le_trans hsz1 (hul q hq).1
  have HB := Lib.hid b13
  clear hp3 b13 b1 b2 b3 t1 t2 o2 cn cb cnw hsm
  go_upto_region 5 with (fail)
  go_region
  all_goals go_wp2_with (fail)
  all_goals go_ret
  all_goals (first
    | exact begins_fin2 (rb := w3.heap.size) (kb := (w3.heap.size + 1)) (tb := (w3.heap.size + 1 + 1)) (bk := w3.heap.size + 1 + 1 + 1) H3.out HB.out (Nat.le_refl _) (by omega) (by omega) HO.out (four w3 _ _ _ _ _ _ _ _).2.2.2.2 (by omega) (four w3 _ _ _ _ _ _ _ _).2.2.2.1 (four w3 _ _ _ _ _ _ _ _).1 (four w3 _ _ _ _ _ _ _ _).2.1 (four w3 _ _ _ _ _ _ _ _).2.2.1
    | exact begins_fin2 (rb := w3.heap.size) (kb := (w3.heap.size + 1 + 1)) (tb := (w3.heap.size + 1)) (bk := w3.heap.size + 1 + 1 + 1) H3.out HB.out (Nat.le_refl _) (by omega) (by omega) HO.out (four w3 _ _ _ _ _ _ _ _).2.2.2.2 (by omega) (four w3 _ _ _ _ _ _ _ _).2.2.2.1 (four w3 _ _ _ _ _ _ _ _).1 (four w3 _ _ _ _ _ _ _ _).2.2.1 (four w3 _ _ _ _ _ _ _ _).2.1
    | exact begins_fin2 (rb := (w3.heap.size + 1)) (kb := w3.heap.size) (tb := (w3.heap.size + 1 + 1)) (bk := w3.heap.size + 1 + 1 + 1) H3.out HB.out (Nat.le_refl _) (by omega) (by omega) HO.out (four w3 _ _ _ _ _ _ _ _).2.2.2.2 (by omega) (four w3 _ _ _ _ _ _ _ _).2.2.2.1 (four w3 _ _ _ _ _ _ _ _).2.1 (four w3 _ _ _ _ _ _ _ _).1 (four w3 _ _ _ _ _ _ _ _).2.2.1
    | exact begins_fin2 (rb := (w3.heap.size + 1)) (kb := (w3.heap.size + 1 + 1)) (tb := w3.heap.size) (bk := w3.heap.size + 1 + 1 + 1) H3.out HB.out (Nat.le_refl _) (by omega) (by omega) HO.out (four w3 _ _ _ _ _ _ _ _).2.2.2.2 (by omega) (four w3 _ _ _ _ _ _ _ _).2.2.2.1 (four w3 _ _ _ _ _ _ _ _).2.1 (four w3 _ _ _ _ _ _ _ _).2.2.1 (four w3 _ _ _ _ _ _ _ _).1
    | exact begins_fin2 (rb := (w3.heap.size + 1 + 1)) (kb := w3.heap.size) (tb := (w3.heap.size + 1)) (bk := w3.heap.size + 1 + 1 + 1) H3.out HB.out (Nat.le_refl _) (by omega) (by omega) HO.out (four w3 _ _ _ _ _ _ _ _).2.2.2.2 (by omega) (four w3 _ _ _ _ _ _ _ _).2.2.2.1 (four w3 _ _ _ _ _ _ _ _).2.2.1 (four w3 _ _ _ _ _ _ _ _).1 (four w3 _ _ _ _ _ _ _ _).2.1
    | exact begins_fin2 (rb := (w3.heap.size + 1 + 1)) (kb := (w3.heap.size + 1)) (tb := w3.heap.size) (bk := w3.heap.size + 1 + 1 + 1) H3.out HB.out (Nat.le_refl _) (by omega) (by omega) HO.out (four w3 _ _ _ _ _ _ _ _).2.2.2.2 (by omega) (four w3 _ _ _ _ _ _ _ _).2.2.2.1 (four w3 _ _ _ _ _ _ _ _).2.2.1 (four w3 _ _ _ _ _ _ _ _).2.1 (four w3 _ _ _ _ _ _ _ _).1)
/-- None of a book's blocks is one of those that steps of another book turn. -/
structure Far (bk rb kb tb h g m : Nat) (u : Value) (kv tv : Nat → Value) (S : Nat → Prop) : Prop where
  b : ¬ S bk ∧ ¬ S rb ∧ ¬ S kb ∧ ¬ S tb ∧ ¬ S h ∧ ¬ S g ∧ ¬ S m
  u : ∀ q, u.ownBlock = some q → ¬ S q
  k : ∀ i, i < 4 → ∀ q, (kv i).ownBlock = some q → ¬ S q
  t : ∀ i, i < 4 → ∀ q, (tv i).ownBlock = some q → ¬ S q
def turned (g m rb kb tb q : Nat) : Prop := q = g ∨ q = m ∨ q = rb ∨ q = kb ∨ q = tb
section
variable {w w' : World} {bk rb kb tb h g m g2 m2 rb2 kb2 tb2 : Nat} {u : Value} {Y : Tri.TW ByteArray} {Z : Int → Bool} {R : Nat → Nat} {G : Nat → Prop} {lv pos : Nat → Nat} {kv tv : Nat → Value}
theorem Bk.other (B : Bk w bk rb kb tb h g m u Y Z R G lv pos kv tv) (F : Far bk rb kb tb h g m u kv tv (turned g2 m2 rb2 kb2 tb2)) (T : BTo w g2 m2 rb2 kb2 tb2 w') : Bk w' bk rb kb tb h g m u Y Z R G lv pos kv tv := by
  have ho : ∀ q, q < w.heap.size → ¬ turned g2 m2 rb2 kb2 tb2 q → w'.heap[q]? = w.heap[q]? := fun q hq hn =>
    T.oth q hq (fun e => hn (.inl e)) (fun e => hn (.inr (.inl e))) (fun e => hn (.inr (.inr (.inl e)))) (fun e => hn (.inr (.inr (.inr (.inl e))))) (fun e => hn (.inr (.inr (.inr (.inr e)))))
  obtain ⟨f1, f2, f3, f4, f5, f6, f7⟩ := F.b
  obtain ⟨l1, l2, l3, l4⟩ := B.bw.lts
  refine ⟨⟨(ho bk l1 f1).trans B.bw.b, (ho rb l2 f2).trans B.bw.r, (ho kb l3 f3).trans B.bw.k, (ho tb l4 f4).trans B.bw.t, fun i hi => (B.bw.kr i hi).kept T.size fun q hq hlt => ho q hlt (F.k i hi q hq), fun i hi => (B.bw.tr i hi).kept T.size fun q hq hlt => ho q hlt (F.t i hi q hq), B.bw.kd, B.bw.td, B.bw.len, B.bw.kc, B.bw.tc⟩, B.hp.same T.size fun q hq hc => ho q hq ?_, B.ts, B.A⟩
  rcases hc with rfl | rfl | rfl | hc
  · exact f5
  · exact f6
  · exact f7
  · exact F.u q hc
theorem Far.put {S : Nat → Prop} (F : Far bk rb kb tb h g m u kv tv S) {va vb : Value} (ha : ∀ q, va.ownBlock = some q → ¬ S q) (hb : ∀ q, vb.ownBlock = some q → ¬ S q) : Far bk rb kb tb h g m u (updF kv 0 va) (updF tv 0 vb) S :=
  ⟨F.b, F.u, fun i hi q hq => by
    by_cases e : i = 0
    · subst e; rw [updF_same] at hq; exact ha q hq
    · rw [updF_other e] at hq; exact F.k i hi q hq, fun i hi q hq => by
    by_cases e : i = 0
    · subst e; rw [updF_same] at hq; exact hb q hq
    · rw [updF_other e] at hq; exact F.t i hi q hq⟩
end

section
variable {n : Nat} {Y Y' : Tri.TW ByteArray} {R R' : Nat → Nat} {G G' : Nat → Prop} {lv lv' pos pos' : Nat → Nat} {at_ : Nat}
theorem treeF_none (e : Nat → Nat → Nat) (T : Nat → ByteArray) (r k : Nat) : treeF e T r k = none ↔ Tri.get e 3 r k = 0 := by
  unfold treeF
  by_cases z : Tri.get e 3 r k = 0
  · rw [if_pos z]; exact ⟨fun _ => z, fun _ => rfl⟩
  · rw [if_neg z]; exact ⟨fun h => (by cases h), fun h => absurd h z⟩
theorem wayP_supp {f f' : Nat → Nat} (h : ∀ k, k < 4096 → (f k = 0 ↔ f' k = 0)) : wayP f = wayP f' := by
  funext z
  rw [Bool.eq_iff_iff, wayP_iff, wayP_iff]
  exact ⟨fun ⟨k, d, h1, h2, h3, h4⟩ => ⟨k, d, h1, h2, fun y => h3 ((h k h1).2 y), h4⟩, fun ⟨k, d, h1, h2, h3, h4⟩ => ⟨k, d, h1, h2, fun y => h3 ((h k h1).1 y), h4⟩⟩
/-- A single tree with the same keys uses as many blocks. -/
theorem used_same (hn : n ≤ 200) (hn3 : 3 ≤ n) (ts : TS n Y R G lv pos) (ts' : TS n Y' R' G' lv' pos') (h1 : ∀ i, i < 4 → i ≠ 0 → R i = 0) (h2 : ∀ i, i < 4 → i ≠ 0 → R' i = 0)
    (hf : ∀ k, k < 4096 → (Tri.get Y.σ.e 3 (R 0) k = 0 ↔ Tri.get Y'.σ.e 3 (R' 0) k = 0)) : usedTo (cOf Y.σ.c) n = usedTo (cOf Y'.σ.c) n := by
  rw [used_one hn hn3 ts (by omega) h1, used_one hn hn3 ts' (by omega) h2, wayP_supp hf]
theorem cntP_add {p q : Nat → Bool} {n : Nat} (l : List Nat) (h : ∀ z, z < n → p z = true → q z = true ∨ z ∈ l) : cntP p n ≤ cntP q n + l.length := by
  unfold cntP
  rw [← List.length_append]
  refine nodup_le2 ((List.nodup_range (n := n)).filter p) fun z hz => ?_
  have hz2 := List.mem_filter.1 hz
  rcases h z (by simpa using hz2.1) hz2.2 with h1 | h1
  · exact List.mem_append.2 (.inl (List.mem_filter.2 ⟨hz2.1, h1⟩))
  · exact List.mem_append.2 (.inr h1)
/-- A single tree with few keys uses few blocks. -/
theorem used_few (hn : n ≤ 200) (hn3 : 3 ≤ n) (ts : TS n Y R G lv pos) (h1 : ∀ i, i < 4 → i ≠ 0 → R i = 0) (L : List Nat) (hL : ∀ k, k < 4096 → treeF Y.σ.e Y.T (R 0) k ≠ none → k ∈ L) : usedTo (cOf Y.σ.c) n ≤ 3 + 4 * L.length := by
  rw [used_one hn hn3 ts (by omega) h1]
  have := cntP_add (p := wayP (Tri.get Y.σ.e 3 (R 0))) (q := fun _ => false) (n := 4369) (L.flatMap fun key => (List.range 4).map fun d => offD d + key / 16 ^ (3 - d)) (fun z _ hz => by
    obtain ⟨k, d, k1, k2, k3, k4⟩ := (wayP_iff _ _).1 hz
    exact .inr (List.mem_flatMap.2 ⟨k, hL k k1 (fun e => k3 ((treeF_none _ _ _ _).1 e)), List.mem_map.2 ⟨d, by simp; omega, k4.symm⟩⟩))
  have h0 : cntP (fun _ => false) 4369 = 0 := by
    unfold cntP
    rw [List.length_eq_zero_iff, List.filter_eq_nil_iff]
    intro x _; simp
  have h2 : (L.flatMap fun key => (List.range 4).map fun d => offD d + key / 16 ^ (3 - d)).length = 4 * L.length := by
    clear this h0 hL
    induction L with
    | nil => rfl
    | cons a t ih => rw [List.flatMap_cons, List.length_append, ih, List.length_map, List.length_range, List.length_cons]; omega
  omega
/-- A tree that has what keys of a list say, no other. -/
def HasK (Y : Tri.TW ByteArray) (r : Nat) (P : Nat → Prop) : Prop := ∀ k, k < 4096 → (P k → treeF Y.σ.e Y.T r k = some (blockS (k : Int))) ∧ (¬ P k → treeF Y.σ.e Y.T r k = none)
theorem HasK.congr {r : Nat} {P Q : Nat → Prop} (h : HasK Y r P) (e : ∀ k, k < 4096 → (P k ↔ Q k)) : HasK Y r Q := fun k hk => ⟨fun q => (h k hk).1 ((e k hk).2 q), fun q => (h k hk).2 (fun p => q ((e k hk).1 p))⟩
theorem HasK.some_ {r : Nat} {P : Nat → Prop} (h : HasK Y r P) {k : Nat} (hk : k < 4096) (hn : treeF Y.σ.e Y.T r k ≠ none) : P k := Classical.byContradiction fun z => hn ((h k hk).2 z)
theorem HasK.set {r r' key : Nat} {P : Nat → Prop} (h : HasK Y r P) (hs : ∀ k, treeF Y'.σ.e Y'.T r' k = if k % 4096 = key then some (blockS (key : Int)) else treeF Y.σ.e Y.T r k) : HasK Y' r' (fun k => P k ∨ k = key) := fun k hk => by
  rw [hs k, Nat.mod_eq_of_lt hk]
  by_cases e : k = key
  · subst e; rw [if_pos rfl]; exact ⟨fun _ => rfl, fun z => absurd (.inr rfl) z⟩
  · rw [if_neg e]; exact ⟨fun z => (h k hk).1 (z.elim id (fun y => absurd y e)), fun z => (h k hk).2 (fun y => z (.inl y))⟩
/-- A key that is set twice has what it was set to last. -/
theorem HasK.set2 {Y1 Y2 : Tri.TW ByteArray} {r r1 r2 key : Nat} {s : ByteArray} {P : Nat → Prop} (h : HasK Y r P) (h1 : ∀ k, treeF Y1.σ.e Y1.T r1 k = if k % 4096 = key then some s else treeF Y.σ.e Y.T r k) (h2 : ∀ k, treeF Y2.σ.e Y2.T r2 k = if k % 4096 = key then some (blockS (key : Int)) else treeF Y1.σ.e Y1.T r1 k) : HasK Y2 r2 (fun k => P k ∨ k = key) :=
  h.set (key := key) fun k => by
    rw [h2 k]
    by_cases e : k % 4096 = key
    · rw [if_pos e, if_pos e]
    · rw [if_neg e, if_neg e, h1 k, if_neg e]
theorem HasK.used (hn : n ≤ 200) (hn3 : 3 ≤ n) (ts : TS n Y R G lv pos) (h1 : ∀ i, i < 4 → i ≠ 0 → R i = 0) {P : Nat → Prop} (h : HasK Y (R 0) P) (L : List Nat) (hL : ∀ k, P k → k ∈ L) (hl : L.length ≤ 13) : usedTo (cOf Y.σ.c) n ≤ 55 := by
  have := used_few hn hn3 ts h1 L (fun k hk hz => hL k (h.some_ hk hz))
  omega
theorem HasK.same (hn : n ≤ 200) (hn3 : 3 ≤ n) (ts : TS n Y R G lv pos) (ts' : TS n Y' R' G' lv' pos') (h1 : ∀ i, i < 4 → i ≠ 0 → R i = 0) (h2 : ∀ i, i < 4 → i ≠ 0 → R' i = 0) {P : Nat → Prop} (h : HasK Y (R 0) P) (h' : HasK Y' (R' 0) P) : usedTo (cOf Y.σ.c) n = usedTo (cOf Y'.σ.c) n :=
  used_same hn hn3 ts ts' h1 h2 fun k hk => by
    rw [← treeF_none _ Y.T, ← treeF_none _ Y'.T]
    by_cases p : P k
    · rw [(h k hk).1 p, (h' k hk).1 p]; first | done | exact ⟨fun z => (by cases z), fun z => (by cases z)⟩
    · rw [(h k hk).2 p, (h' k hk).2 p]
theorem hasK_00 : HasK Y00 0 (fun _ => False) := fun k _ => ⟨fun z => z.elim, fun _ => by unfold treeF; simp [Tri.get_zero]⟩
theorem mem_erase_at {l : List Nat} (hd : l.Nodup) {c : Nat} (hc : c < l.length) (k : Nat) : k ∈ l.take c ++ l.drop (c + 1) ↔ k ∈ l ∧ k ≠ l[c] := by
  have e : l = l.take c ++ l[c] :: l.drop (c + 1) := by rw [← List.drop_eq_getElem_cons hc, List.take_append_drop]
  have hn : l[c] ∉ l.take c ∧ l[c] ∉ l.drop (c + 1) := by
    rw [e] at hd
    obtain ⟨h1, h2, h3⟩ := List.nodup_append.1 hd
    exact ⟨fun z => h3 _ z _ List.mem_cons_self rfl, (List.nodup_cons.1 h2).1⟩
  rw [List.mem_append]
  constructor
  · rintro (z | z)
    · exact ⟨List.mem_of_mem_take z, fun y => hn.1 (y ▸ z)⟩
    · exact ⟨List.mem_of_mem_drop z, fun y => hn.2 (y ▸ z)⟩
  · rintro ⟨z, y⟩
    rw [e] at z
    rcases List.mem_append.1 z with z | z
    · exact .inl z
    · rcases List.mem_cons.1 z with z | z
      · exact absurd z y
      · exact .inr z
theorem nodup_erase_at {l : List Nat} (hd : l.Nodup) (c : Nat) : (l.take c ++ l.drop (c + 1)).Nodup := by
  rw [← List.eraseIdx_eq_take_drop_succ]
  exact hd.sublist (List.eraseIdx_sublist _ _)
end

theorem turned_lt {g m rb kb tb B q : Nat} (h : B ≤ g ∧ B ≤ m ∧ B ≤ rb ∧ B ≤ kb ∧ B ≤ tb) (hq : q < B) : ¬ turned g m rb kb tb q := by
  rintro (e | e | e | e | e) <;> omega
theorem turned_ge {g m rb kb tb B q : Nat} (h : g < B ∧ m < B ∧ rb < B ∧ kb < B ∧ tb < B) (hq : B ≤ q) : ¬ turned g m rb kb tb q := by
  rintro (e | e | e | e | e) <;> omega
/-- Where a book lies. -/
structure Adr where
  bk : Nat
  rb : Nat
  kb : Nat
  tb : Nat
  h : Nat
  g : Nat
  m : Nat
  u : Value
def Adr.S (a : Adr) (q : Nat) : Prop := turned a.g a.m a.rb a.kb a.tb q
def Adr.lo (a : Adr) (B : Nat) : Prop := B ≤ a.g ∧ B ≤ a.m ∧ B ≤ a.rb ∧ B ≤ a.kb ∧ B ≤ a.tb
def Adr.hi (a : Adr) (B : Nat) : Prop := a.g < B ∧ a.m < B ∧ a.rb < B ∧ a.kb < B ∧ a.tb < B
/-- A book whose first tree has what F says, and whose other trees are empty; none of its blocks is one of S. -/
def OneB (a : Adr) (S : Nat → Prop) (F : Nat → Option ByteArray) (w : World) : Prop :=
  ∃ Y Z R G lv pos kv tv, Bk w a.bk a.rb a.kb a.tb a.h a.g a.m a.u Y Z R G lv pos kv tv ∧ Far a.bk a.rb a.kb a.tb a.h a.g a.m a.u kv tv S ∧ (∀ k, k < 4096 → treeF Y.σ.e Y.T (R 0) k = F k) ∧ ∀ j, j < 4 → j ≠ 0 → R j = 0
section
variable {a b : Adr} {S : Nat → Prop} {FA FB F : Nat → Option ByteArray} {w w' : World}
theorem OneB.below (h : OneB a S F w) (hb : Below w.heap.size w w') : OneB a S F w' := by
  obtain ⟨Y, Z, R, G, lv, pos, kv, tv, B, f, hF, hz⟩ := h
  exact ⟨Y, Z, R, G, lv, pos, kv, tv, B.below hb, f, hF, hz⟩
theorem OneB.congr {F' : Nat → Option ByteArray} (h : OneB a S F w) (e : ∀ k, k < 4096 → F k = F' k) : OneB a S F' w := by
  obtain ⟨Y, Z, R, G, lv, pos, kv, tv, B, f, hF, hz⟩ := h
  exact ⟨Y, Z, R, G, lv, pos, kv, tv, B, f, fun k hk => (hF k hk).trans (e k hk), hz⟩
def OneTo (w : World) (a b : Adr) (S : Nat → Prop) (F FB : Nat → Option ByteArray) (x : Ending) (w' : World) : Prop :=
  x = .returned (.bool true) ∧ OneB a S F w' ∧ OneB b a.S FB w' ∧ BTo w a.g a.m a.rb a.kb a.tb w'
theorem one_set (hA : OneB a S FA w) (hB : OneB b a.S FB w) (hS : ∀ q, w.heap.size ≤ q → ¬ S q) (key : Nat) (hkey : key < 4096) (x : Int) (hx1 : -9223372036854775808 ≤ x) (hx2 : x ≤ 9223372036854775807) (L : List Nat) (hL : ∀ k, k < 4096 → FA k ≠ none → k ∈ L) (hl : L.length ≤ 13) :
    Calls Try.prog 20 #[.pointer (some ⟨a.bk, 0, none⟩), .int .i64 (key : Int), .int .i64 x] w (OneTo w a b S (fun k => if k = key then some (blockS x) else FA k) FB) := by
  obtain ⟨Y, Z, R, G, lv, pos, kv, tv, B, F, hF, hz⟩ := hA
  obtain ⟨Y2, Z2, R2, G2, lv2, pos2, kv2, tv2, B2, F2, hF2, hz2⟩ := hB
  have hu := used_few (Nat.le_refl _) (by omega) B.ts hz L (fun k hk hn => hL k hk (by rw [← hF k hk]; exact hn))
  refine (tset_any B key hkey x hx1 hx2 (by omega)).mono ?_
  rintro e w' ⟨rfl, T, Y', Z', R', G', lv', pos', va, vb, B', ⟨ha, hb⟩, hf, hr⟩
  exact ⟨rfl, ⟨Y', Z', R', G', lv', pos', _, _, B', F.put (fun q hq => hS q (ha q hq)) (fun q hq => hS q (hb q hq)), fun k hk => by rw [hf k, Nat.mod_eq_of_lt hk, hF k hk], fun j hj h0 => by rw [hr j h0]; exact hz j hj h0⟩, ⟨Y2, Z2, R2, G2, lv2, pos2, kv2, tv2, B2.other F2 T, F2, hF2, hz2⟩, T⟩
theorem one_right (hA : OneB a S FA w) : Calls Try.prog 11 #[.pointer (some ⟨a.bk, 0, none⟩)] w (Same2 w (.bool true)) := by
  obtain ⟨Y, Z, R, G, lv, pos, kv, tv, B, F, hF, hz⟩ := hA
  exact right_any B
theorem one_cell (hA : OneB a S FA w) : w.cell? ⟨a.bk, 0, none⟩ = some (.pointer (some ⟨a.g, 0, none⟩)) := by
  obtain ⟨Y, Z, R, G, lv, pos, kv, tv, B, F, hF, hz⟩ := hA
  exact B.bw.c0
/-- Books whose trees have the same use as many blocks. -/
theorem two_used (hA : OneB a S F w) (hB : OneB b a.S F w) : ∃ n : Nat, n ≤ 240 ∧ ∀ W, Below w.heap.size w W → Calls Try.prog 27 #[.pointer (some ⟨a.g, 0, none⟩)] W (fun e w' => e = .returned (.int .i64 (n : Int)) ∧ W = w') ∧ Calls Try.prog 27 #[.pointer (some ⟨b.g, 0, none⟩)] W (fun e w' => e = .returned (.int .i64 (n : Int)) ∧ W = w') := by
  obtain ⟨Y, Z, R, G, lv, pos, kv, tv, B, Fa, hF, hz⟩ := hA
  obtain ⟨Y2, Z2, R2, G2, lv2, pos2, kv2, tv2, B2, F2, hF2, hz2⟩ := hB
  have he := used_same (Nat.le_refl _) (by omega) B.ts B2.ts hz hz2 (fun k hk => by
    rw [← treeF_none _ Y.T, ← treeF_none _ Y2.T, hF k hk, hF2 k hk])
  refine ⟨usedTo (cOf Y.σ.c) 240, used_le _ _, fun W hW => ⟨?_, ?_⟩⟩
  · have q := (B.below hW).hp
    exact used_any a.g 200 _ W q.t q.small
  · have q := (B2.below hW).hp
    have e2 : usedTo (cOf Y.σ.c) 240 = usedTo (cOf Y2.σ.c) 240 := by rw [used240 q.small, used240 (B.below hW).hp.small, he]
    rw [e2]
    exact used_any b.g 200 _ W q.t q.small
end
/-- What the keys of a list that are not among others have. -/
def keyF (l rs : List Nat) (k : Nat) : Option ByteArray := if k ∈ l ∧ k ∉ rs then some (blockS (k : Int)) else none
theorem keyF_nil (l : List Nat) (k : Nat) : keyF l l k = none := if_neg fun h => h.2 h.1
theorem keyF_put {l rs : List Nat} {c : Nat} (hd : rs.Nodup) (hc : c < rs.length) (hs : ∀ k ∈ rs, k ∈ l) (k : Nat) : (if k = rs[c] then some (blockS (rs[c] : Int)) else if k = rs[c] then some (blockS 9999) else keyF l rs k) = keyF l (rs.take c ++ rs.drop (c + 1)) k := by
  unfold keyF
  have hm := mem_erase_at hd hc k
  by_cases e : k = rs[c]
  · rw [if_pos e, if_pos ⟨by rw [e]; exact hs _ (List.getElem_mem hc), fun z => (hm.1 z).2 e⟩, e]
  · rw [if_neg e, if_neg e]
    by_cases h : k ∈ l ∧ k ∉ rs
    · rw [if_pos h, if_pos ⟨h.1, fun z => h.2 (hm.1 z).1⟩]
    · rw [if_neg h, if_neg fun z => h ⟨z.1, fun y => z.2 (hm.2 ⟨y, e⟩)⟩]
theorem keyF_drop {l : List Nat} {i : Nat} (hd : l.Nodup) (hi : i < l.length) (k : Nat) : (if k = l[i] then some (blockS (l[i] : Int)) else keyF l (l.drop i) k) = keyF l (l.drop (i + 1)) k := by
  unfold keyF
  have e1 : l.drop i = l[i] :: l.drop (i + 1) := List.drop_eq_getElem_cons hi
  have hn : l[i] ∉ l.drop (i + 1) := by
    have := hd.sublist (List.drop_sublist i l)
    rw [e1] at this
    exact (List.nodup_cons.1 this).1
  by_cases e : k = l[i]
  · rw [if_pos e, if_pos ⟨by rw [e]; exact List.getElem_mem hi, by rw [e]; exact hn⟩, e]
  · rw [if_neg e]
    by_cases h : k ∈ l ∧ k ∉ l.drop (i + 1)
    · rw [if_pos h, if_pos ⟨h.1, by rw [e1]; exact fun z => (List.mem_cons.1 z).elim e h.2⟩]
    · rw [if_neg h, if_neg fun z => h ⟨z.1, fun y => z.2 (by rw [e1]; exact List.mem_cons_of_mem _ y)⟩]
theorem keyF_mem {l rs : List Nat} {k : Nat} (h : keyF l rs k ≠ none) : k ∈ l := by
  unfold keyF at h
  by_cases z : k ∈ l ∧ k ∉ rs
  · exact z.1
  · rw [if_neg z] at h; exact absurd rfl h

section
variable {P : Program} {ops : Array Oper} {o : Oper} {a : Act} {S : World → Prop}
theorem yieldsIf_index_run {ty : TypeId} {p iv v : Value} (hw : Region.wanted o (yielded ops a.tmps) = true) (x y : Operand) (ho : o.op = .indexAddr ty x y) (hx : a.eval x = p) (hy : a.eval y = iv) (hS : ∀ w, (Instr.indexAt ty p iv).run P w = .ok v w) : YieldsIf P ops S o v a :=
  .inl ⟨hw, fun w hw' => by
    unfold execOp
    simp only [ho, hx, hy, Sem.run_bind, Sem.run_pure, hS w, Result.andThen_ok]⟩
theorem yieldsIf_hi_run {ty : TypeId} {p iv v : Value} (hw : Region.wanted o (yielded ops a.tmps) = true) (x y : Operand) (ho : o.op = .slice ty x none (some y) none) (hx : a.eval x = p) (hy : a.eval y = iv) (hS : ∀ w, (Instr.sliceAt ty p none (some iv) none).run P w = .ok v w) : YieldsIf P ops S o v a :=
  .inl ⟨hw, fun w hw' => by
    unfold execOp
    simp only [ho, hx, hy, Option.map_none, Option.map_some, Sem.run_bind, Sem.run_pure, hS w, Result.andThen_ok]⟩
theorem yieldsIf_lo_run {ty : TypeId} {p iv v : Value} (hw : Region.wanted o (yielded ops a.tmps) = true) (x y : Operand) (ho : o.op = .slice ty x (some y) none none) (hx : a.eval x = p) (hy : a.eval y = iv) (hS : ∀ w, (Instr.sliceAt ty p (some iv) none none).run P w = .ok v w) : YieldsIf P ops S o v a :=
  .inl ⟨hw, fun w hw' => by
    unfold execOp
    simp only [ho, hx, hy, Option.map_none, Option.map_some, Sem.run_bind, Sem.run_pure, hS w, Result.andThen_ok]⟩
theorem yieldsIf_bin_run {op : BinOp} {ty ty2 : TypeId} {p q v : Value} (hw : Region.wanted o (yielded ops a.tmps) = true) (x y : Operand) (ho : o.op = .binOp op ty x y ty2) (hx : a.eval x = p) (hy : a.eval y = q) (hg : ∀ w, (eqGuard op ty x y p q).run P w = .ok () w) (hS : ∀ w, (binOp op ty p q).run P w = .ok v w) : YieldsIf P ops S o v a :=
  .inl ⟨hw, fun w hw' => by
    unfold execOp
    simp only [ho, hx, hy, Sem.run_bind, Sem.run_pure, hg w, hS w, Result.andThen_ok]⟩
end
theorem ints_at (b o n c i : Nat) (hi : i < n) (W : World) : (Instr.indexAt 28 (.slice (some ⟨b, o, none⟩) n c) (.int .i64 (i : Int))).run Try.prog W = .ok (.pointer (some ⟨b, o + i, none⟩)) W := by
  have hs : (sizeOf 3).run Try.prog W = .ok 1 W := by kernel_rfl
  simp [Instr.indexAt, run_underlying Try.underlying28, asIntOf, hs, hi]
  exact addr_at b o i
theorem cell_load {P : Program} {T : TypeId} (hT : ∀ W, (isAgg T).run P W = .ok false W) {W : World} {b o : Nat} {v : Value} (h : W.cell? ⟨b, o, none⟩ = some v) : (Instr.loadAt T (.pointer (some ⟨b, o, none⟩))).run P W = .ok v W := by
  simp [Instr.loadAt, Instr.sureAddr, asAddr, loadVar, hT W, h]
theorem int_load {W : World} {b o : Nat} {v : Value} (h : W.cell? ⟨b, o, none⟩ = some v) : (Instr.loadAt 3 (.pointer (some ⟨b, o, none⟩))).run Try.prog W = .ok v W :=
  cell_load (fun W => by kernel_rfl) h
theorem tab_load {W : World} {b o : Nat} {v : Value} (h : W.cell? ⟨b, o, none⟩ = some v) : (Instr.loadAt 29 (.pointer (some ⟨b, o, none⟩))).run Try.prog W = .ok v W :=
  cell_load (fun W => by kernel_rfl) h

/-- What lies at B or behind it stays. -/
def Keeps (B : Nat) (w w' : World) : Prop := w.heap.size ≤ w'.heap.size ∧ ∀ q, B ≤ q → q < w.heap.size → w'.heap[q]? = w.heap[q]?
theorem Keeps.drew (B : Nat) (w : World) : Keeps B w w.drew := ⟨Nat.le_refl _, fun _ _ _ => rfl⟩
theorem Keeps.trans {B : Nat} {w w1 w' : World} (a : Keeps B w w1) (b : Keeps B w1 w') : Keeps B w w' :=
  ⟨Nat.le_trans a.1 b.1, fun q h1 h2 => (b.2 q h1 (Nat.lt_of_lt_of_le h2 a.1)).trans (a.2 q h1 h2)⟩
theorem BTo.keeps {B : Nat} {a : Adr} {w w' : World} (t : BTo w a.g a.m a.rb a.kb a.tb w') (h : a.hi B) : Keeps B w w' :=
  ⟨t.b0.size, fun q h1 h2 => by
    obtain ⟨e1, e2, e3, e4, e5⟩ := h
    exact t.oth q h2 (by omega) (by omega) (by omega) (by omega) (by omega)⟩
theorem BTo.below' {B : Nat} {a : Adr} {w w' : World} (t : BTo w a.g a.m a.rb a.kb a.tb w') (h : a.lo B) (hs : B ≤ w.heap.size) : Below B w w' :=
  ⟨t.b0.os, t.b0.tape, t.b0.output, t.b0.size, fun q hq => by
    obtain ⟨e1, e2, e3, e4, e5⟩ := h
    exact t.oth q (by omega) (by omega) (by omega) (by omega) (by omega) (by omega)⟩
theorem Below.drew_ (w : World) : Below w.heap.size w w.drew := ⟨rfl, rfl, rfl, Nat.le_refl _, fun _ _ => rfl⟩
theorem Own.same' {w w' : World} {B : Nat} {E : TypeId} {v : Value} {xs : List Value} (h : Own w B E v xs) (e : ∀ q, v.ownBlock = some q → w'.heap[q]? = w.heap[q]?) : Own w' B E v xs := by
  refine ⟨h.o.1, ?_⟩
  rcases h.o.2 with h1 | ⟨g, cap, cur, h1, h2, h3, h4⟩
  · exact .inl h1
  · exact .inr ⟨g, cap, cur, h1, h2, by rw [e g (by rw [h1]; rfl)]; exact h3, h4⟩
theorem Own.down {w : World} {B B' : Nat} {E : TypeId} {v : Value} {xs : List Value} (h : Own w B E v xs) (hB : B' ≤ B) : Own w B' E v xs := by
  refine ⟨h.o.1, ?_⟩
  rcases h.o.2 with h1 | ⟨g, cap, cur, h1, h2, h3, h4⟩
  · exact .inl h1
  · exact .inr ⟨g, cap, cur, h1, Nat.le_trans hB h2, h3, h4⟩
def Begun (w : World) (x : Ending) (w' : World) : Prop := ∃ a : Adr, x = .returned (.pointer (some ⟨a.bk, 0, none⟩)) ∧ Below w.heap.size w w' ∧ a.lo w.heap.size ∧ a.hi w'.heap.size ∧ ∀ S : Nat → Prop, (∀ q, w.heap.size ≤ q → q < w'.heap.size → ¬ S q) → OneB a S (fun _ => none) w'
theorem begins3_any (w : World) : Calls Try.prog 9 #[] w (Begun w) := by
  refine (begins2_any w).mono ?_
  rintro x w' ⟨bk, rb, kb, tb, h, g, m, u, Y, Z, R, G, lv, pos, kv, tv, rfl, B, b, hd, rfl, rfl, rfl, rfl, hbk, hh, hu⟩
  obtain ⟨l1, l2, l3, l4⟩ := B.bw.lts
  have l5 := B.hp.lts
  have g1 := l5 h (.inl rfl)
  have g2 := l5 g (.inr (.inl rfl))
  have g3 := l5 m (.inr (.inr (.inl rfl)))
  refine ⟨⟨bk, rb, kb, tb, h, g, m, u⟩, rfl, b, ?_, ?_, fun S hS => ?_⟩
  · unfold Adr.lo; simp only; omega
  · unfold Adr.hi; simp only; omega
  · exact ⟨_, _, _, _, _, _, _, _, B, ⟨⟨hS _ hbk l1, hS _ hd.1 l2, hS _ hd.2.1 l3, hS _ hd.2.2.1 l4, hS _ hh g1, hS _ hd.2.2.2.1 g2, hS _ hd.2.2.2.2 g3⟩, fun q hq => hS _ (hu q hq) (l5 q (.inr (.inr (.inr hq)))), fun _ _ q hq => (by cases hq), fun _ _ q hq => (by cases hq)⟩, fun k hk => by unfold treeF; simp [Tri.get_zero], fun _ _ _ => rfl⟩
structure Start3 (W w3 : World) (A B : Adr) : Prop where
  oa : OneB A B.S (fun _ => none) w3
  ob : OneB B A.S (fun _ => none) w3
  al : A.lo W.heap.size
  bl : B.lo W.heap.size
  ah : A.hi w3.heap.size
  bh : B.hi w3.heap.size
  w : Below W.heap.size W w3
theorem start3 {W w1 w2 w3 : World} {A B : Adr} (b1 : Below W.heap.size W w1) (b2 : Below w1.heap.size w1 w2) (hA1 : A.lo w1.heap.size) (hA2 : A.hi w2.heap.size) (hA3 : ∀ S : Nat → Prop, (∀ q, w1.heap.size ≤ q → q < w2.heap.size → ¬ S q) → OneB A S (fun _ => none) w2) (b3 : Below w2.heap.size w2 w3) (hB1 : B.lo w2.heap.size) (hB2 : B.hi w3.heap.size) (hB3 : ∀ S : Nat → Prop, (∀ q, w2.heap.size ≤ q → q < w3.heap.size → ¬ S q) → OneB B S (fun _ => none) w3) : Start3 W w3 A B := by
  have s1 := b1.size
  have s2 := b2.size
  have s3 := b3.size
  refine ⟨(hA3 B.S fun q _ hq => turned_lt hB1 hq).below b3, hB3 A.S fun q hq _ => turned_ge hA2 hq, ?_, ?_, ?_, hB2, b1.trans ((b2.trans (b3.mono s2)).mono s1)⟩
  · unfold Adr.lo at *; omega
  · unfold Adr.lo at *; omega
  · unfold Adr.hi at *; omega
structure Rel3 (W : World) (B0 : Nat) (A B : Adr) (l : List Nat) (va : Option Addr) (vc i : Nat) (rs : List Nat) (v : Value) (wz : World) : Prop where
  il : i ≤ l.length
  len : rs.length + i = l.length
  nd : l.Nodup
  rnd : rs.Nodup
  sub : ∀ k ∈ rs, k ∈ l
  l12 : l.length ≤ 12
  lk : ∀ k ∈ l, k < 4096
  o : Own wz B0 3 v (rs.map fun k : Nat => Value.int .i64 (k : Int))
  r : Reads wz (.slice va l.length vc) (l.map fun k : Nat => Value.int .i64 (k : Int))
  rb : ∀ q, (Value.slice va l.length vc).ownBlock = some q → B0 ≤ q
  oa : OneB A B.S (keyF l (l.drop i)) wz
  ob : OneB B A.S (keyF l rs) wz
  al : A.lo W.heap.size
  bl : B.lo W.heap.size
  ah : A.hi B0
  bh : B.hi B0
  w : Below W.heap.size W wz
  s : B0 ≤ wz.heap.size
  ws : W.heap.size ≤ wz.heap.size
section
variable {W w3 wr w8 wz wc w9 : World} {A B : Adr} {l rs : List Nat} {va : Option Addr} {vc i c B0 : Nat} {v v8 v9 : Value}
theorem rel3_start (G : Start3 W w3 A B) (h12 : l.length ≤ 12) (hnd : l.Nodup) (hlk : ∀ k ∈ l, k < 4096) (ho : Own wr w3.heap.size 3 (.slice va l.length vc) (l.map fun k : Nat => Value.int .i64 (k : Int))) (b8 : Below w3.heap.size wr w8) (hk8 : ∀ k, k < wr.heap.size → (Value.slice none 0 0).ownBlock ≠ some k → w8.heap[k]? = wr.heap[k]?) (o8 : Own w8 w3.heap.size 3 v8 (l.map fun k : Nat => Value.int .i64 (k : Int))) (hB : Below w3.heap.size w3 wr) : Rel3 W w3.heap.size A B l va vc 0 l v8 w8 := by
  have h38 := hB.trans b8
  have s := G.w.size
  exact ⟨Nat.zero_le _, rfl, hnd, hnd, fun _ h => h, h12, hlk, o8, ho.reads.kept b8.size (fun q hq hlt => hk8 q hlt (by simp [Value.ownBlock])), fun q hq => (ho.o.lt q hq).1, (G.oa.below h38).congr (fun k _ => by rw [List.drop_zero, keyF_nil]), (G.ob.below h38).congr (fun k _ => by rw [keyF_nil]), G.al, G.bl, G.ah, G.bh, G.w.trans (h38.mono s), h38.size, Nat.le_trans s h38.size⟩
theorem Rel3.items (h : Rel3 W B0 A B l va vc i rs v wz) : ∃ ra rc, v = .slice ra rs.length rc ∧ Hid (∀ c (hc : c < rs.length), ∃ cb co, ra = some ⟨cb, co, none⟩ ∧ ∀ W', Keeps B0 wz W' → W'.cell? ⟨cb, co + c, none⟩ = some (.int .i64 ((rs[c] : Nat) : Int))) := by
  obtain ⟨ra, rc, hv, hit⟩ := Reads.items h.o.reads
  refine ⟨ra, rc, hv, Lib.hid fun c hc => ?_⟩
  obtain ⟨cb, co, e1, e2, e3⟩ := hit c hc
  have hlo := (h.o.o.lt cb (by rw [hv, e1]; rfl)).1
  exact ⟨cb, co, e1, fun W' hK => (cell_of_heap (hK.2 cb hlo e2) (co + c)).trans e3⟩
theorem Rel3.item (h : Rel3 W B0 A B l va vc i rs v wz) {j : Nat} (hj : j < l.length) : ∃ cb co, va = some ⟨cb, co, none⟩ ∧ Hid (∀ W', Keeps B0 wz W' → W'.cell? ⟨cb, co + j, none⟩ = some (.int .i64 ((l[j] : Nat) : Int))) := by
  obtain ⟨a, c, hv, hit⟩ := Reads.items h.r
  have hva : va = a := by injection hv
  obtain ⟨cb, co, e1, e2, e3⟩ := hit j hj
  have hlo := h.rb cb (by rw [hva, e1]; rfl)
  exact ⟨cb, co, by rw [hva, e1], Lib.hid fun W' hK => (cell_of_heap (hK.2 cb hlo e2) (co + j)).trans e3⟩
theorem rel3_next {li rc : Nat} (h : Rel3 W B0 A B l va vc i rs v wz) (hlt : i < l.length) (hc : c < rs.length) (hli : l[i] = li) (hrc : rs[c] = rc) (K3 : Keeps B0 wz wc) (oa : OneB A B.S (fun k => if k = li then some (blockS (li : Int)) else keyF l (l.drop i) k) wc)
    (ob : OneB B A.S (fun k => if k = rc then some (blockS (rc : Int)) else if k = rc then some (blockS 9999) else keyF l rs k) wc) (W3 : Below W.heap.size W wc) (b19 : Below wc.heap.size wc w9) (o9 : Own w9 wc.heap.size 3 v9 ((rs.take c ++ rs.drop (c + 1)).map fun k : Nat => Value.int .i64 (k : Int))) : Rel3 W B0 A B l va vc (i + 1) (rs.take c ++ rs.drop (c + 1)) v9 w9 := by
  have hl := h.len
  have hsz := K3.1
  have hs9 := b19.size
  have h1 := h.s
  have h2 := h.ws
  subst hli
  subst hrc
  refine ⟨by omega, by rw [List.length_append, List.length_take, List.length_drop]; omega, h.nd, nodup_erase_at h.rnd c, fun k hk => h.sub k ((mem_erase_at h.rnd hc k).1 hk).1, h.l12, h.lk, o9.down (by omega), (h.r.kept K3.1 fun q hq hlt => K3.2 q (h.rb q hq) hlt).below b19, h.rb, (oa.below b19).congr fun k _ => ?_, (ob.below b19).congr fun k _ => ?_, h.al, h.bl, h.ah, h.bh, W3.trans (b19.mono (by omega)), by omega, by omega⟩
  · exact keyF_drop h.nd hlt k
  · exact keyF_put h.rnd hc h.sub k
end
theorem slice_hi_at {P : Program} {T E : TypeId} (hT : P.underlying T = some (.slice E)) (hz : ∀ W, (sizeOf E).run P W = .ok 1 W) (a : Option Addr) (n c p : Nat) (hp : p ≤ c) (W : World) : (Instr.sliceAt T (.slice a n c) none (some (.int .i64 (p : Int))) none).run P W = .ok (.slice a p c) W := by
  have := slice_hi hT hz a n c p hp W
  simp [Instr.sliceAt, run_underlying hT, this]
/-- What lies ahead of a place, and what lies behind it. -/
theorem parts_any {w : World} {B : Nat} {v : Value} {rs : List Nat} (h : Own w B 3 v (rs.map fun k : Nat => Value.int .i64 (k : Int))) {c : Nat} (hc : c < rs.length) :
    ∃ u1 u2, (∀ W, (Instr.sliceAt 28 v none (some (.int .i64 (c : Int))) none).run Try.prog W = .ok u1 W) ∧ (∀ W, (Instr.sliceAt 28 v (some (.int .i64 ((c : Int) + 1))) none none).run Try.prog W = .ok u2 W) ∧ Reads w u1 ((rs.take c).map fun k : Nat => Value.int .i64 (k : Int)) ∧ Reads w u2 ((rs.drop (c + 1)).map fun k : Nat => Value.int .i64 (k : Int)) := by
  have hs : ∀ W, (sizeOf 3).run Try.prog W = .ok 1 W := fun W => by kernel_rfl
  rcases h.o.2 with ⟨_, h0⟩ | ⟨g, cap, cur, rfl, h2, h3, h4, h5, h6, h7⟩
  · rw [List.length_map] at h0; omega
  · rw [List.length_map] at *
    have hrd := h.reads
    rcases hrd with ⟨⟨a0, c0, e⟩, e0⟩ | ⟨b, off, cap2, e, hb, hcell⟩
    · have : rs = [] := by simpa using e0
      subst this; simp at hc
    · obtain ⟨rfl, rfl⟩ : g = b ∧ off = 0 := by
        injection e with e1 e2 e3
        injection e1 with e1
        injection e1 with e1 e2
        exact ⟨e1, e2.symm⟩
      have hcell' : ∀ j (hj : j < rs.length), w.cell? ⟨g, j, none⟩ = some (.int .i64 ((rs[j] : Nat) : Int)) := fun j hj => by
        have := hcell j (by rw [List.length_map]; exact hj)
        rw [Nat.zero_add] at this
        rw [this]; simp [List.getD_eq_getElem?_getD, hj]
      have e1 : (0 : Int) ≤ (c : Int) + 1 := by omega
      have e2 : (c : Int) + 1 ≤ (rs.length : Int) := by omega
      have e3 : ((c : Int) + 1).toNat = c + 1 := by omega
      refine ⟨.slice (some ⟨g, 0, none⟩) c cap, .slice (some (if cap - (c + 1) = 0 then ⟨g, 0, none⟩ else ⟨g, c + 1, none⟩)) (rs.length - (c + 1)) (cap - (c + 1)), fun W => slice_hi_at Try.underlying28 hs _ _ _ _ (by omega) W, fun W => ?_, ?_, ?_⟩
      · have hadd : (⟨g, 0, none⟩ : Addr).add (c + 1) = ⟨g, c + 1, none⟩ := (addr_at g 0 (c + 1)).trans (by rw [Nat.zero_add])
        simp [Instr.sliceAt, Instr.slice, run_underlying Try.underlying28, Instr.sliceBounds, Instr.sliceBound, asIntOf, hs W, e1, e2, e3]
        by_cases hk : cap - (c + 1) = 0
        · simp [hk, show (cap = c + 1) by omega]
        · simp [hk, hadd, show ¬ (cap = c + 1) by omega]
      · by_cases hc0 : c = 0
        · subst hc0; exact .inl ⟨⟨_, _, rfl⟩, rfl⟩
        · refine .inr ⟨g, 0, cap, ?_, hb, fun j hj => ?_⟩
          · rw [List.length_map, List.length_take, Nat.min_eq_left (by omega)]
          · rw [List.length_map, List.length_take] at hj
            rw [Nat.zero_add, hcell' j (by omega)]; simp [List.getD_eq_getElem?_getD, show j < c by omega, show j < rs.length by omega]
      · by_cases hc0 : rs.length - (c + 1) = 0
        · exact .inl ⟨⟨_, _, by rw [hc0]⟩, by rw [List.drop_eq_nil_of_le (by omega)]; rfl⟩
        · refine .inr ⟨g, c + 1, cap - (c + 1), ?_, hb, fun j hj => ?_⟩
          · rw [List.length_map, List.length_drop, if_neg (by omega)]
          · rw [List.length_map, List.length_drop] at hj
            rw [hcell' (c + 1 + j) (by omega)]; simp [List.getD_eq_getElem?_getD, show c + 1 + j < rs.length by omega]
theorem sum_one (c : Nat) (hc : c ≤ 1000) (W : World) : (binOp .add 3 (.int .i64 (c : Int)) (.int .i64 1)).run Try.prog W = .ok (.int .i64 ((c : Int) + 1)) W := by
  have h : IntKind.i64.wrap ((c : Int) + 1) = (c : Int) + 1 := IntWalk.i64_in _ ⟨by omega, by omega⟩
  simp [binOp, Op.intArith, h]
theorem eql_same (n : Nat) (W : World) : (binOp .eql 3 (.int .i64 (n : Int)) (.int .i64 (n : Int))).run Try.prog W = .ok (.bool true) W := by
  simp [binOp, Op.intCmp]
end Go.Proofs.Ytlbjfigdocbffaa
