/- trie: a key has a text in a book. -/
import Derived.Test.YtlbjfigdocbffaaTriBook
namespace Go.Proofs.Ytlbjfigdocbffaa
open Go.RowKit
set_option linter.unusedVariables false
set_option linter.unusedSimpArgs false

def PutG (w : World) (bk rb kb tb h g m : Nat) (R : Nat → Nat) (kv tv : Nat → Value) (K : Nat → List (Nat × ByteArray)) (i : Nat) (l : List (Nat × ByteArray)) (e : Ending) (w' : World) : Prop :=
  e = .returned (.tuple #[]) ∧ ∃ a b, BkW w' bk rb kb tb h g m R (updF kv i a) (updF tv i b) (updF K i l) ∧ HTo w kb tb w'
section
variable {w w' : World} {bk rb kb tb h g m : Nat} {u : Value} {R : Nat → Nat} {kv tv : Nat → Value} {K : Nat → List (Nat × ByteArray)}
theorem insL_cons (k : Nat) (s : ByteArray) (d : Bool) (p : Nat × ByteArray) (l : List (Nat × ByteArray)) : insL k s d (p :: l) = (if !d && decide (k ≤ p.1) then [(k, s)] else []) ++ (if p.1 = k then [] else [p]) ++ insL k s (d || decide (k ≤ p.1)) l := rfl
theorem insL_nil (k : Nat) (s : ByteArray) (d : Bool) : insL k s d [] = if d then [] else [(k, s)] := rfl
theorem KT.below {w w' : World} {B : Nat} {a b : Value} {l : List (Nat × ByteArray)} (h : KT w B a b l) (hb : Below w.heap.size w w') : KT w' B a b l := ⟨h.oa.after hb, h.ob.after hb, h.ap⟩
theorem own_cap {w : World} {B : Nat} {E : TypeId} {v : Value} {xs : List Value} (h : Own w B E v xs) : ∀ x n c, v = .slice x n c → n ≤ c := fun x n c e => by
  rcases h.o.2 with ⟨h1, h2⟩ | ⟨g, cap, cur, h1, h2, h3, h4, _⟩
  · rw [e] at h1
    injection h1 with _ h1 h3
    omega
  · rw [e] at h1
    injection h1 with _ h1 h3
    omega
set_option maxRecDepth 100000 in
set_option maxHeartbeats 4000000 in
theorem bput_any (H : BkW w bk rb kb tb h g m R kv tv K) (A : BkA bk rb kb tb h g m u) (hgl : g < w.heap.size ∧ m < w.heap.size) (i : Nat) (hi : i < 4) (k : Nat) (hk : k ≤ 4096) (s : ByteArray) (is : Bool) (hlen : (insL k s (!is) (K i)).length ≤ 4096) :
    Calls Try.prog 25 #[.pointer (some ⟨bk, 0, none⟩), .int .i64 (i : Int), .int .i64 (k : Int), .string s, .bool is] w (PutG w bk rb kb tb h g m R kv tv K i (insL k s (!is) (K i))) := by
  obtain ⟨ka, kc, hkv, hkit⟩ := Reads.items (H.kr i hi)
  obtain ⟨ta, tc, htv, htit⟩ := Reads.items (H.tr i hi)
  obtain ⟨L, hL⟩ : ∃ L, L = K i := ⟨_, rfl⟩
  have hLl : L.length ≤ 4096 := by rw [hL]; exact H.len i hi
  have HC : Hid (∀ W, Below w.heap.size w W → W.cell? ⟨bk, 3, none⟩ = some (.slice (some ⟨kb, 0, none⟩) 4 4) ∧ W.cell? ⟨bk, 4, none⟩ = some (.slice (some ⟨tb, 0, none⟩) 4 4) ∧ W.cell? ⟨kb, i, none⟩ = some (.slice ka L.length kc) ∧ W.cell? ⟨tb, i, none⟩ = some (.slice ta L.length tc)) := Lib.hid fun W hW => by
    have H2 := H.below hW
    refine ⟨H2.c3, H2.c4, ?_, ?_⟩
    · rw [H2.ck hi, hkv, hL]
    · rw [H2.ct hi, htv, hL]
  have HK : Hid (∀ j (hj : j < L.length), ∃ cb co, ka = some ⟨cb, co, none⟩ ∧ ∀ W, Below w.heap.size w W → W.cell? ⟨cb, co + j, none⟩ = some (.int .i64 ((L[j].1 : Nat) : Int))) := Lib.hid fun j hj => by
    subst hL
    obtain ⟨cb, co, e1, e2, e3⟩ := hkit j hj
    exact ⟨cb, co, e1, fun W hW => (hW.cell (p := ⟨cb, co + j, none⟩) e2).trans e3⟩
  have HT : Hid (∀ j (hj : j < L.length), ∃ cb co, ta = some ⟨cb, co, none⟩ ∧ ∀ W, Below w.heap.size w W → W.cell? ⟨cb, co + j, none⟩ = some (.string L[j].2)) := Lib.hid fun j hj => by
    subst hL
    obtain ⟨cb, co, e1, e2, e3⟩ := htit j hj
    exact ⟨cb, co, e1, fun W hW => (hW.cell (p := ⟨cb, co + j, none⟩) e2).trans e3⟩
  have HW := Lib.hid H
  have HA := Lib.hid A
  have HL := Lib.hid hL
  have HG := Lib.hid hgl
  have hi4 : (i : Int) < 4 := by omega
  rw [← hL] at hlen ⊢
  have hlen' := Lib.hid hlen
  clear H A hkv htv hkit htit hL hlen hgl
  go_enter Try.func25, Try.ntmps25
  go_wp2_with (fail)
  go_loopw [10, 11, 12, 13] (fun a b d j wr => ∃ (q : Nat) (dn : Bool) (l : List (Nat × ByteArray)), q ≤ L.length ∧ j = .int .i64 (q : Int) ∧ d = .bool dn ∧ KT wr w.heap.size a b l ∧ l.length ≤ q + dn.toNat ∧ l ++ insL k s dn (L.drop q) = insL k s (!is) L ∧ Below w.heap.size w wr) (fun _ _ _ j _ => L.length - (intOf j).toNat)
  case atStart => exact ⟨0, !is, [], Nat.zero_le _, rfl, rfl, KT.nil _ _, Nat.zero_le _, by simp, Below.refl _ _⟩
  case round =>
    obtain ⟨q, dn, l, hq, rfl, rfl, hkt, hll, hins, hB⟩ := hrel
    by_cases hlt : q < L.length
    · obtain ⟨cb, co, rfl, hke⟩ := HK.out q hlt
      obtain ⟨xb, xo, rfl, hte⟩ := HT.out q hlt
      have hdrop : L.drop q = L[q] :: L.drop (q + 1) := List.drop_eq_getElem_cons hlt
      rw [hdrop, insL_cons] at hins
      clear hdrop
      have y1 : (q : Int) < (L.length : Int) := by omega
      generalize L[q] = p at *
      have HKE := Lib.hid hke
      have HTE := Lib.hid hte
      have HB := Lib.hid hB
      have HKT := Lib.hid hkt
      clear hke hte
      cases dn
      · by_cases h1 : k ≤ p.1
        · have z1 : (k : Int) ≤ (p.1 : Int) := by omega
          have z2 : decide (((p.1 : Nat) : Int) ≥ (k : Int)) = true := decide_eq_true z1
          have z3 : decide ((k : Int) ≤ ((p.1 : Nat) : Int)) = true := decide_eq_true z1
          have z4 : decide (k ≤ p.1) = true := decide_eq_true h1
          by_cases h2 : p.1 = k
          · have x1 : (((p.1 : Nat) : Int) != (k : Int)) = false := by rw [bne_eq_false_iff_eq]; omega
            have x2 : (((p.1 : Nat) : Int) == (k : Int)) = true := by rw [beq_iff_eq]; omega
            have hins' : Hid (l ++ [(k, s)] ++ insL k s true (L.drop (q + 1)) = insL k s (!is) L) := Lib.hid (by rw [← hins, z4, if_pos h2]; simp)
            clear hins h1
            obtain ⟨k3, -, kk, -⟩ := HC.out wr hB
            have ke := HKE.out wr hB
            obtain ⟨a1, u1, b1, v1, ra1, bu1, rb1, bv1, kt1⟩ := hkt.push k s hB.size (by simp [Bool.toNat] at hll; omega)
            have BU1 : Below w.heap.size w u1 := hB.trans bu1
            have BV1 : Below w.heap.size w v1 := hB.trans bv1
            obtain ⟨k31, -, kk1, -⟩ := HC.out v1 BV1
            have ke1 := HKE.out v1 BV1
            have HF : Hid (KT v1 w.heap.size a1 b1 (l ++ [(k, s)]) ∧ Below w.heap.size w v1) := Lib.hid ⟨kt1, BV1⟩
            clear kt1 bu1 bv1 BU1 BV1 hkt hB
            go_wp2_with (first | (at_builtin; refine wpList_append_run (o := ⟨some 47, _, _, _, _, _⟩) ra1 _ _ rfl rfl rfl rfl rfl ?_) | (at_builtin; refine wpList_append_run (o := ⟨some 51, _, _, _, _, _⟩) rb1 _ _ rfl rfl rfl rfl rfl ?_))
            go_roundw
            case rel => exact ⟨q + 1, true, l ++ [(k, s)], by omega, by go_num, rfl, HF.out.1, by simp [Bool.toNat] at hll ⊢; omega, by first | exact hins'.out | (rw [← hins'.out]; simp), HF.out.2⟩
            case measure => simp [intOf]; omega
          · have x1 : (((p.1 : Nat) : Int) != (k : Int)) = true := by rw [bne_iff_ne]; omega
            have x2 : (((p.1 : Nat) : Int) == (k : Int)) = false := by rw [beq_eq_false_iff_ne]; omega
            have hins' : Hid (l ++ [(k, s)] ++ [(p.1, p.2)] ++ insL k s true (L.drop (q + 1)) = insL k s (!is) L) := Lib.hid (by rw [← hins, z4, if_neg h2]; simp)
            clear hins h1
            obtain ⟨k3, -, kk, -⟩ := HC.out wr hB
            have ke := HKE.out wr hB
            obtain ⟨a1, u1, b1, v1, ra1, bu1, rb1, bv1, kt1⟩ := hkt.push k s hB.size (by simp [Bool.toNat] at hll; omega)
            have BU1 : Below w.heap.size w u1 := hB.trans bu1
            have BV1 : Below w.heap.size w v1 := hB.trans bv1
            obtain ⟨k31, -, kk1, -⟩ := HC.out v1 BV1
            have ke1 := HKE.out v1 BV1
            obtain ⟨a2, u2, b2, v2, ra2, bu2, rb2, bv2, kt2⟩ := kt1.push p.1 p.2 BV1.size (by simp [Bool.toNat] at hll ⊢; omega)
            have BU2 : Below w.heap.size w u2 := BV1.trans bu2
            have BV2 : Below w.heap.size w v2 := BV1.trans bv2
            obtain ⟨-, t42, -, tt2⟩ := HC.out u2 BU2
            have te2 := HTE.out u2 BU2
            have HF : Hid (KT v2 w.heap.size a2 b2 (l ++ [(k, s)] ++ [(p.1, p.2)]) ∧ Below w.heap.size w v2) := Lib.hid ⟨kt2, BV2⟩
            clear kt1 bu1 bv1 BU1 BV1 kt2 bu2 bv2 BU2 BV2 hkt hB
            go_wp2_with (first | (at_builtin; refine wpList_append_run (o := ⟨some 47, _, _, _, _, _⟩) ra1 _ _ rfl rfl rfl rfl rfl ?_) | (at_builtin; refine wpList_append_run (o := ⟨some 51, _, _, _, _, _⟩) rb1 _ _ rfl rfl rfl rfl rfl ?_) | (at_builtin; refine wpList_append_run (o := ⟨some 76, _, _, _, _, _⟩) ra2 _ _ rfl rfl rfl rfl rfl ?_) | (at_builtin; refine wpList_append_run (o := ⟨some 89, _, _, _, _, _⟩) rb2 _ _ rfl rfl rfl rfl rfl ?_))
            go_roundw
            case rel => exact ⟨q + 1, true, l ++ [(k, s)] ++ [(p.1, p.2)], by omega, by go_num, rfl, HF.out.1, by simp [Bool.toNat] at hll ⊢; omega, by first | exact hins'.out | (rw [← hins'.out]; simp), HF.out.2⟩
            case measure => simp [intOf]; omega
        · have z1 : ¬ ((k : Int) ≤ (p.1 : Int)) := by omega
          have z2 : decide (((p.1 : Nat) : Int) ≥ (k : Int)) = false := decide_eq_false z1
          have z3 : decide ((k : Int) ≤ ((p.1 : Nat) : Int)) = false := decide_eq_false z1
          have z4 : decide (k ≤ p.1) = false := decide_eq_false h1
          have z5 : ((p.1 : Nat) : Int) < (k : Int) := by omega
          have x1 : (((p.1 : Nat) : Int) != (k : Int)) = true := by rw [bne_iff_ne]; omega
          have x2 : (((p.1 : Nat) : Int) == (k : Int)) = false := by rw [beq_eq_false_iff_ne]; omega
          have hins' : Hid (l ++ [(p.1, p.2)] ++ insL k s false (L.drop (q + 1)) = insL k s (!is) L) := Lib.hid (by rw [← hins, z4, if_neg (show ¬ p.1 = k by omega)]; simp)
          clear hins h1
          obtain ⟨k3, -, kk, -⟩ := HC.out wr hB
          have ke := HKE.out wr hB
          obtain ⟨a2, u2, b2, v2, ra2, bu2, rb2, bv2, kt2⟩ := hkt.push p.1 p.2 hB.size (by simp [Bool.toNat] at hll; omega)
          have BU2 : Below w.heap.size w u2 := hB.trans bu2
          have BV2 : Below w.heap.size w v2 := hB.trans bv2
          obtain ⟨-, t42, -, tt2⟩ := HC.out u2 BU2
          have te2 := HTE.out u2 BU2
          have HF : Hid (KT v2 w.heap.size a2 b2 (l ++ [(p.1, p.2)]) ∧ Below w.heap.size w v2) := Lib.hid ⟨kt2, BV2⟩
          clear kt2 bu2 bv2 BU2 BV2 hkt hB
          go_wp2_with (first | (at_builtin; refine wpList_append_run (o := ⟨some 76, _, _, _, _, _⟩) ra2 _ _ rfl rfl rfl rfl rfl ?_) | (at_builtin; refine wpList_append_run (o := ⟨some 89, _, _, _, _, _⟩) rb2 _ _ rfl rfl rfl rfl rfl ?_))
          go_roundw
          case rel => exact ⟨q + 1, false, l ++ [(p.1, p.2)], by omega, by go_num, rfl, HF.out.1, by simp [Bool.toNat] at hll ⊢; omega, by first | exact hins'.out | (rw [← hins'.out]; simp), HF.out.2⟩
          case measure => simp [intOf]; omega
      · by_cases h2 : p.1 = k
        · have x1 : (((p.1 : Nat) : Int) != (k : Int)) = false := by rw [bne_eq_false_iff_eq]; omega
          have x2 : (((p.1 : Nat) : Int) == (k : Int)) = true := by rw [beq_iff_eq]; omega
          have hins' : Hid (l ++ insL k s true (L.drop (q + 1)) = insL k s (!is) L) := Lib.hid (by rw [← hins, if_pos h2]; simp)
          clear hins
          obtain ⟨k3, -, kk, -⟩ := HC.out wr hB
          have ke := HKE.out wr hB
          have HF : Hid (KT wr w.heap.size u10 u11 (l) ∧ Below w.heap.size w wr) := Lib.hid ⟨hkt, hB⟩
          clear hkt hB
          go_wp2_with (fail)
          go_roundw
          case rel => exact ⟨q + 1, true, l, by omega, by go_num, rfl, HF.out.1, by simp [Bool.toNat] at hll ⊢; omega, by first | exact hins'.out | (rw [← hins'.out]; simp), HF.out.2⟩
          case measure => simp [intOf]; omega
        · have x1 : (((p.1 : Nat) : Int) != (k : Int)) = true := by rw [bne_iff_ne]; omega
          have x2 : (((p.1 : Nat) : Int) == (k : Int)) = false := by rw [beq_eq_false_iff_ne]; omega
          have hins' : Hid (l ++ [(p.1, p.2)] ++ insL k s true (L.drop (q + 1)) = insL k s (!is) L) := Lib.hid (by rw [← hins, if_neg h2]; simp)
          clear hins
          obtain ⟨k3, -, kk, -⟩ := HC.out wr hB
          have ke := HKE.out wr hB
          obtain ⟨a2, u2, b2, v2, ra2, bu2, rb2, bv2, kt2⟩ := hkt.push p.1 p.2 hB.size (by simp [Bool.toNat] at hll; omega)
          have BU2 : Below w.heap.size w u2 := hB.trans bu2
          have BV2 : Below w.heap.size w v2 := hB.trans bv2
          obtain ⟨-, t42, -, tt2⟩ := HC.out u2 BU2
          have te2 := HTE.out u2 BU2
          have HF : Hid (KT v2 w.heap.size a2 b2 (l ++ [(p.1, p.2)]) ∧ Below w.heap.size w v2) := Lib.hid ⟨kt2, BV2⟩
          clear kt2 bu2 bv2 BU2 BV2 hkt hB
          go_wp2_with (first | (at_builtin; refine wpList_append_run (o := ⟨some 76, _, _, _, _, _⟩) ra2 _ _ rfl rfl rfl rfl rfl ?_) | (at_builtin; refine wpList_append_run (o := ⟨some 89, _, _, _, _, _⟩) rb2 _ _ rfl rfl rfl rfl rfl ?_))
          go_roundw
          case rel => exact ⟨q + 1, true, l ++ [(p.1, p.2)], by omega, by go_num, rfl, HF.out.1, by simp [Bool.toNat] at hll ⊢; omega, by first | exact hins'.out | (rw [← hins'.out]; simp), HF.out.2⟩
          case measure => simp [intOf]; omega
    · obtain rfl : q = L.length := by omega
      rw [List.drop_of_length_le (Nat.le_refl _), insL_nil] at hins
      obtain ⟨c3, c4, ck, ct⟩ := HC.out wr hB
      have y1 : ¬ ((L.length : Int) < (L.length : Int)) := by omega
      cases dn
      · obtain ⟨a1, u1, b1, v1, ra1, bu1, rb1, bv1, kt1⟩ := hkt.push k s hB.size (by simp [Bool.toNat] at hll; omega)
        have BV1 : Below w.heap.size w v1 := hB.trans bv1
        obtain ⟨c3, c4, ck, ct⟩ := HC.out v1 BV1
        have hw1 := HW.out.below BV1
        obtain ⟨x1, x2, x3, x4⟩ := hw1.lts
        have hA := HA.out
        have fk : v1.frozen? ⟨kb, i, none⟩ = false := frozen_of_row _ _ _ _ _ hw1.k
        have hap : ∀ q, (a1 : Value).ownBlock = some q → q ≠ g ∧ q ≠ m ∧ q ≠ rb ∧ q ≠ kb ∧ q ≠ tb := fun q hq => by
          obtain ⟨l1, l2, l3, l4⟩ := HW.out.lts
          obtain ⟨l5, l6⟩ := HG.out
          have := (kt1.oa.o.lt q hq).1
          omega
        have hbp : ∀ q, (b1 : Value).ownBlock = some q → q ≠ g ∧ q ≠ m ∧ q ≠ rb ∧ q ≠ kb ∧ q ≠ tb := fun q hq => by
          obtain ⟨l1, l2, l3, l4⟩ := HW.out.lts
          obtain ⟨l5, l6⟩ := HG.out
          have := (kt1.ob.o.lt q hq).1
          omega
        have hac : ∀ x n c, a1 = .slice x n c → n ≤ c := own_cap kt1.oa
        have hbc : ∀ x n c, b1 = .slice x n c → n ≤ c := own_cap kt1.ob
        have hnl : l ++ [(k, s)] = insL k s (!is) L := by rw [← hins]; simp
        have hfin : Hid (PutG w bk rb kb tb h g m R kv tv K i (insL k s (!is) L) (.returned (.tuple #[])) ((v1.setCell ⟨kb, i, none⟩ a1).setCell ⟨tb, i, none⟩ b1)) := Lib.hid ⟨rfl, a1, b1, hw1.setKT hA i hi a1 b1 _ (by rw [← hnl]; exact kt1.oa.reads) (by rw [← hnl]; exact kt1.ob.reads) hlen'.out hap hbp hac hbc, by
          have hq := HTo.quiet (g := kb) (m := tb) BV1
          refine ⟨⟨hq.b0.os, hq.b0.tape, hq.b0.output, by simpa using hq.b0.size, fun q hq => absurd hq (Nat.not_lt_zero _)⟩, fun q h1 h2 h3 => ?_⟩
          rw [Below.heap_setCell _ _ _ _ (fun e => h3 (by have e : q = tb := e; exact e)), Below.heap_setCell _ _ _ _ (fun e => h2 (by have e : q = kb := e; exact e))]
          exact hq.oth q h1 h2 h3⟩
        have ct2 : (v1.setCell ⟨kb, i, none⟩ a1).cell? ⟨tb, i, none⟩ = some (.slice ta L.length tc) := by
          rw [← ct]
          exact cell_of_heap (Below.heap_setCell _ _ _ _ (fun e => hA.kt (by have e : tb = kb := e; exact e.symm))) i
        have c42 : (v1.setCell ⟨kb, i, none⟩ a1).cell? ⟨bk, 4, none⟩ = some (.slice (some ⟨tb, 0, none⟩) 4 4) := by
          rw [← c4]
          exact cell_of_heap (Below.heap_setCell _ _ _ _ (fun e => hA.bk_ (by have e : bk = kb := e; exact e))) 4
        have ft2 : (v1.setCell ⟨kb, i, none⟩ a1).frozen? ⟨tb, i, none⟩ = false := by
          rw [World.frozen?_setCell]; exact frozen_of_row _ _ _ _ _ hw1.t
        have sa : ∃ x n c, a1 = .slice x n c := by
          rcases kt1.oa.o.2 with ⟨e, _⟩ | ⟨_, _, _, e, _⟩ <;> exact ⟨_, _, _, e⟩
        have sb : ∃ x n c, b1 = .slice x n c := by
          rcases kt1.ob.o.2 with ⟨e, _⟩ | ⟨_, _, _, e, _⟩ <;> exact ⟨_, _, _, e⟩
        obtain ⟨xa, na, ca, rfl⟩ := sa
        obtain ⟨xb, nb, cb, rfl⟩ := sb
        clear hw1 hap hbp hac hbc hA x1 x2 x3 x4 hkt hB hins hnl kt1 bu1 bv1 BV1
        go_wp2_with (first | (at_builtin; refine wpList_append_run (o := ⟨some 95, _, _, _, _, _⟩) ra1 _ _ rfl rfl rfl rfl rfl ?_) | (at_builtin; refine wpList_append_run (o := ⟨some 99, _, _, _, _, _⟩) rb1 _ _ rfl rfl rfl rfl rfl ?_))
        go_end0
        exact hfin.out
      · have hw1 := HW.out.below hB
        obtain ⟨x1, x2, x3, x4⟩ := hw1.lts
        have hA := HA.out
        have fk : wr.frozen? ⟨kb, i, none⟩ = false := frozen_of_row _ _ _ _ _ hw1.k
        have hap : ∀ q, (u10 : Value).ownBlock = some q → q ≠ g ∧ q ≠ m ∧ q ≠ rb ∧ q ≠ kb ∧ q ≠ tb := fun q hq => by
          obtain ⟨l1, l2, l3, l4⟩ := HW.out.lts
          obtain ⟨l5, l6⟩ := HG.out
          have := (hkt.oa.o.lt q hq).1
          omega
        have hbp : ∀ q, (u11 : Value).ownBlock = some q → q ≠ g ∧ q ≠ m ∧ q ≠ rb ∧ q ≠ kb ∧ q ≠ tb := fun q hq => by
          obtain ⟨l1, l2, l3, l4⟩ := HW.out.lts
          obtain ⟨l5, l6⟩ := HG.out
          have := (hkt.ob.o.lt q hq).1
          omega
        have hac : ∀ x n c, u10 = .slice x n c → n ≤ c := own_cap hkt.oa
        have hbc : ∀ x n c, u11 = .slice x n c → n ≤ c := own_cap hkt.ob
        have hnl : l = insL k s (!is) L := by rw [← hins]; simp
        have hfin : Hid (PutG w bk rb kb tb h g m R kv tv K i (insL k s (!is) L) (.returned (.tuple #[])) ((wr.setCell ⟨kb, i, none⟩ u10).setCell ⟨tb, i, none⟩ u11)) := Lib.hid ⟨rfl, u10, u11, hw1.setKT hA i hi u10 u11 _ (by rw [← hnl]; exact hkt.oa.reads) (by rw [← hnl]; exact hkt.ob.reads) hlen'.out hap hbp hac hbc, by
          have hq := HTo.quiet (g := kb) (m := tb) hB
          refine ⟨⟨hq.b0.os, hq.b0.tape, hq.b0.output, by simpa using hq.b0.size, fun q hq => absurd hq (Nat.not_lt_zero _)⟩, fun q h1 h2 h3 => ?_⟩
          rw [Below.heap_setCell _ _ _ _ (fun e => h3 (by have e : q = tb := e; exact e)), Below.heap_setCell _ _ _ _ (fun e => h2 (by have e : q = kb := e; exact e))]
          exact hq.oth q h1 h2 h3⟩
        have ct2 : (wr.setCell ⟨kb, i, none⟩ u10).cell? ⟨tb, i, none⟩ = some (.slice ta L.length tc) := by
          rw [← ct]
          exact cell_of_heap (Below.heap_setCell _ _ _ _ (fun e => hA.kt (by have e : tb = kb := e; exact e.symm))) i
        have c42 : (wr.setCell ⟨kb, i, none⟩ u10).cell? ⟨bk, 4, none⟩ = some (.slice (some ⟨tb, 0, none⟩) 4 4) := by
          rw [← c4]
          exact cell_of_heap (Below.heap_setCell _ _ _ _ (fun e => hA.bk_ (by have e : bk = kb := e; exact e))) 4
        have ft2 : (wr.setCell ⟨kb, i, none⟩ u10).frozen? ⟨tb, i, none⟩ = false := by
          rw [World.frozen?_setCell]; exact frozen_of_row _ _ _ _ _ hw1.t
        have sa : ∃ x n c, u10 = .slice x n c := by
          rcases hkt.oa.o.2 with ⟨e, _⟩ | ⟨_, _, _, e, _⟩ <;> exact ⟨_, _, _, e⟩
        have sb : ∃ x n c, u11 = .slice x n c := by
          rcases hkt.ob.o.2 with ⟨e, _⟩ | ⟨_, _, _, e, _⟩ <;> exact ⟨_, _, _, e⟩
        obtain ⟨xa, na, ca, rfl⟩ := sa
        obtain ⟨xb, nb, cb, rfl⟩ := sb
        clear hw1 hap hbp hac hbc hA x1 x2 x3 x4 hkt hB hins hnl
        go_wp2_with (fail)
        go_end0
        exact hfin.out
end
end Go.Proofs.Ytlbjfigdocbffaa
