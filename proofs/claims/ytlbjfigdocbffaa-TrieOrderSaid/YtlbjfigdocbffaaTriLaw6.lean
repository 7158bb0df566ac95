/- trie: in whatever order keys are set (the walk). -/
import Derived.Test.YtlbjfigdocbffaaTriOrd
namespace Go.Proofs.Ytlbjfigdocbffaa
open Go.RowKit
set_option linter.unusedVariables false
set_option linter.unusedSimpArgs false

theorem mem_take_succ {l : List Nat} {j : Nat} (hj : j < l.length) (k : Nat) : decide (k ∈ l.take (j + 1)) = (decide (k ∈ l.take j) || decide (l[j] = k)) := by
  rw [Bool.eq_iff_iff, Bool.or_eq_true, decide_eq_true_iff, decide_eq_true_iff, decide_eq_true_iff, List.take_succ_eq_append_getElem hj, List.mem_append, List.mem_singleton]
  exact ⟨fun h => h.imp_right Eq.symm, fun h => h.imp_right Eq.symm⟩
set_option maxRecDepth 100000 in
set_option maxHeartbeats 8000000 in
theorem torder_walk (v0 v1 : Value) (l0 l1 : List Int) (W : World) (R0 : Reads W v0 (l0.map (.int .i64))) (F0 : ∀ n ∈ l0, -9223372036854775808 ≤ n ∧ n ≤ 9223372036854775807) (C0 : l0.length ≤ 9223372036854775806) (R1 : Reads W v1 (l1.map (.int .i64))) (F1 : ∀ n ∈ l1, -9223372036854775808 ≤ n ∧ n ≤ 9223372036854775807) :
    Calls Try.prog 6 #[v0, v1] W fun e w' => e = .returned (.bool true) ∧ Below W.heap.size W w' := by
  have ca := awake_any W
  obtain ⟨a0, c0, rfl, it0⟩ := Reads.items R0
  obtain ⟨a1, c1, rfl, it1⟩ := Reads.items R1
  obtain ⟨i2, q1, q2, q3, q4⟩ := (info_gen Try.infoI).2
  have HI0 : Hid (∀ i (hi : i < l0.length), ∃ cb co, a0 = some ⟨cb, co, none⟩ ∧ ∀ W', Below W.heap.size W W' → W'.cell? ⟨cb, co + i, none⟩ = some (.int .i64 l0[i])) := Lib.hid fun i hi => by
    obtain ⟨cb, co, e1, e2, e3⟩ := it0 i hi
    exact ⟨cb, co, e1, fun W' hW => (hW.cell (p := ⟨cb, co + i, none⟩) e2).trans e3⟩
  have HI1 : Hid (∀ i (hi : i < l1.length), ∃ cb co, a1 = some ⟨cb, co, none⟩ ∧ ∀ W', Below W.heap.size W W' → W'.cell? ⟨cb, co + i, none⟩ = some (.int .i64 l1[i])) := Lib.hid fun i hi => by
    obtain ⟨cb, co, e1, e2, e3⟩ := it1 i hi
    exact ⟨cb, co, e1, fun W' hW => (hW.cell (p := ⟨cb, co + i, none⟩) e2).trans e3⟩
  have HF0 := Lib.hid F0
  have HF1 := Lib.hid F1
  clear R0 R1 F0 F1 it0 it1
  go_enter Try.func6, Try.ntmps6
  go_wp2_with (fail)
  refine ca.mono ?_
  rintro e w1 ⟨rfl, b1⟩
  have cb := begins3_any w1
  go_wp2_with (fail)
  refine cb.mono ?_
  rintro e w2 ⟨A, rfl, b2, hA1, hA2, hA3⟩
  have cb2 := begins3_any w2
  clear ca cb
  go_wp2_with (fail)
  refine cb2.mono ?_
  rintro e w3 ⟨B, rfl, b3, hB1, hB2, hB3⟩
  have HG : Hid (Start3 W w3 A B) := Lib.hid (start3 b1 b2 hA1 hA2 hA3 b3 hB1 hB2 hB3)
  have H3 := Lib.hid HG.out.w
  clear cb2 b1 b2 b3 hA1 hA2 hA3 hB1 hB2 hB3
  go_wp2_with (fail)
  go_loopw [8, 9, 10, 11, 12] (fun v t _ _ _ wr => ∃ (i : Nat) (l : List Nat), i ≤ l0.length ∧ t = .int .i64 (i : Int) ∧ l.length ≤ 12 ∧ l.Nodup ∧ (∀ k ∈ l, k < 4096) ∧ Own wr w3.heap.size 3 v (l.map fun k : Nat => Value.int .i64 (k : Int)) ∧ Below w3.heap.size w3 wr) (fun _ t _ _ _ _ => l0.length - (intOf t).toNat)
  case atStart => exact ⟨0, [], Nat.zero_le _, rfl, by simp, List.nodup_nil, fun k hk => (by cases hk), Own.nil _ _ _, Below.refl _ _⟩
  case round =>
    obtain ⟨i, l, hi, rfl, hl12, hnd, hlk, ho, hB⟩ := hrel
    rename World => wr
    obtain ⟨va, vc, hv, hit⟩ := Reads.items ho.reads
    subst hv
    by_cases hlt : i < l0.length ∧ l.length < 12
    · obtain ⟨hlt1, hlt2⟩ := hlt
      have y1 : (i : Int) < (l0.length : Int) := by omega
      have y2 : (l.length : Int) < 12 := by omega
      have hW := H3.out.trans (hB.mono H3.out.size)
      obtain ⟨kb0, ko0, rfl, hk0⟩ := HI0.out i hlt1
      have ck0 := hk0 wr hW
      have hin := HF0.out l0[i] (List.getElem_mem hlt1)
      have ckey := key_any l0[i] wr hin.1 hin.2
      have hkl := keyN_lt l0[i]
      generalize l0[i] = raw at *
      generalize keyN raw = key at *
      have HB := Lib.hid hB
      have HO := Lib.hid ho
      have HIT := Lib.hid hit
      have HK0 := Lib.hid hk0
      clear hB ho hit hW hin hk0
      go_wp2_with (fail)
      refine ckey.mono ?_
      rintro e w5 ⟨rfl, q5⟩
      have H5 := Lib.hid (HB.out.trans (q5.mono HB.out.size))
      have HIT5 : Hid (∀ j (hj : j < l.length), ∃ cb co, va = some ⟨cb, co, none⟩ ∧ w5.cell? ⟨cb, co + j, none⟩ = some (.int .i64 ((l[j] : Nat) : Int))) := Lib.hid fun j hj => by
        obtain ⟨cb, co, e1, e2, e3⟩ := HIT.out j hj
        exact ⟨cb, co, e1, (q5.cell (p := ⟨cb, co + j, none⟩) e2).trans e3⟩
      have HO5 := Lib.hid (HO.out.after q5)
      clear q5 ckey ck0 HIT HB HO
      go_wp2_with (fail)
      go_loopw [11, 12] (fun b t wz => ∃ j : Nat, j ≤ l.length ∧ t = .int .i64 (j : Int) ∧ b = .bool (decide (key ∈ l.take j)) ∧ wz = w5) (fun _ t _ => l.length - (intOf t).toNat)
      case atStart => exact ⟨0, Nat.zero_le _, rfl, by simp, rfl⟩
      case round =>
        obtain ⟨j, hj, rfl, rfl, rfl⟩ := hrel
        by_cases hjl : j < l.length
        · have z1 : (j : Int) < (l.length : Int) := by omega
          obtain ⟨cb, co, rfl, hc⟩ := HIT5.out j hjl
          have hms := Lib.hid (mem_take_succ hjl key)
          have te : (((l[j] : Nat) : Int) == (key : Int)) = decide (l[j] = key) := by
            rw [Bool.eq_iff_iff, beq_iff_eq, decide_eq_true_iff]; omega
          generalize l[j] = lj at *
          generalize decide (lj = key) = eqb at *
          generalize decide (key ∈ l.take j) = has at *
          cases has
          · go_wp2_with (fail)
            go_roundw
            case rel => exact ⟨j + 1, by omega, by go_num, by rw [hms.out]; first | rfl | simp, by first | rfl | trivial⟩
            case measure => simp [intOf]; omega
          · go_wp2_with (fail)
            go_roundw
            case rel => exact ⟨j + 1, by omega, by go_num, by rw [hms.out]; first | rfl | simp, by first | rfl | trivial⟩
            case measure => simp [intOf]; omega
        · obtain rfl : j = l.length := by omega
          have z1 : ¬ ((l.length : Int) < (l.length : Int)) := by omega
          rw [List.take_length]
          by_cases hm : key ∈ l
          · have td : decide (key ∈ l) = true := decide_eq_true hm
            rw [td]
            clear td HIT5
            have HM := Lib.hid hm
            clear hm
            go_wp2_with (fail)
            go_roundw
            case rel => exact ⟨i + 1, l, by omega, by go_num, hl12, hnd, hlk, HO5.out, H5.out⟩
            case measure => simp [intOf]; omega
          · have td : decide (key ∈ l) = false := decide_eq_false hm
            rw [td]
            obtain ⟨v8, w8, hap, o8, b8, _⟩ := Own.pushA (P := Try.prog) (T := 28) Try.underlying28 q1 q2 q3 q4 rfl HO5.out (.int .i64 (key : Int)) rfl H5.out.size (by rw [List.length_map]; omega) (by rw [List.length_map]; omega)
            have hfin : Hid ((l ++ [key]).length ≤ 12 ∧ (l ++ [key]).Nodup ∧ (∀ k ∈ l ++ [key], k < 4096) ∧ Own w8 w3.heap.size 3 v8 ((l ++ [key]).map fun k : Nat => Value.int .i64 (k : Int)) ∧ Below w3.heap.size w3 w8) := Lib.hid ⟨by simp; omega, List.nodup_append.2 ⟨hnd, by simp, fun a ha b hb e => hm (by rw [List.mem_singleton] at hb; rw [← hb, ← e]; exact ha)⟩, fun k hk => by
              rcases List.mem_append.1 hk with z | z
              · exact hlk k z
              · rw [List.mem_singleton] at z; omega, by rw [List.map_append]; exact o8, H5.out.trans b8⟩
            clear o8 b8 td hm HIT5
            go_wp2_with (at_builtin; refine wpList_append_run hap _ _ rfl rfl rfl rfl rfl ?_)
            go_roundw
            case rel => exact ⟨i + 1, l ++ [key], by omega, by go_num, hfin.out⟩
            case measure => simp [intOf]; omega
    · obtain ⟨v8, w8, hap, o8, b8, hk8⟩ := Own.pushAll (P := Try.prog) (T := 28) Try.underlying28 q1 q2 q3 q4 rfl (Own.nil wr w3.heap.size 3) ho.reads (fun x hx => by
        obtain ⟨k, _, rfl⟩ := List.mem_map.1 hx; rfl) hB.size (by rw [List.length_map, List.length_nil]; omega) (by rw [List.length_map, List.length_nil]; omega)
      rw [List.nil_append] at o8
      have hb8 := hB.trans b8
      have HST : Hid (Rel3 W w3.heap.size A B l va vc 0 l v8 w8) := Lib.hid (rel3_start HG.out hl12 hnd hlk ho b8 hk8 o8 hB)
      clear ho o8 b8 hb8 hB hit hk8 hnd hlk HG
      by_cases hlt1 : i < l0.length
      · have y1 : (i : Int) < (l0.length : Int) := by omega
        have y2 : ¬ ((l.length : Int) < 12) := by omega
        have hlt1' := hlt1

        go_wp2_with (at_builtin; refine wpList_append_run hap _ _ rfl rfl rfl rfl rfl ?_)
        clear hap
        go_loopw [4, 14, 15, 16] (fun _ v t _ wz => ∃ (i : Nat) (rs : List Nat), t = .int .i64 (i : Int) ∧ Rel3 W w3.heap.size A B l va vc i rs v wz) (fun _ _ t _ _ => l.length - (intOf t).toNat)
        case atStart => exact ⟨0, l, rfl, HST.out⟩
        case round =>
          clear HST
          obtain ⟨i, rs, rfl, hR⟩ := hrel
          rename World => wz
          have hi := hR.il
          have hrl := hR.len
          have hS := hR.s
          have hl12 := hR.l12
          have hlk := hR.lk
          have hWz := hR.ws
          by_cases hlt : i < l.length
          · have y3 : (i : Int) < (l.length : Int) := by omega
            obtain ⟨ra, rk, hv, hrit⟩ := hR.items
            subst hv
            obtain ⟨cb, co, rfl, hcl⟩ := hR.item hlt
            have hkl := hlk _ (List.getElem_mem hlt)
            have HW := Lib.hid hR.w
            have HhA := Lib.hid hR.ah
            have HhB := Lib.hid hR.bh
            have HloA := Lib.hid hR.al
            have HloB := Lib.hid hR.bl
            have HOr := Lib.hid hR.o
            have HR := Lib.hid hR
            clear hR hlt1'
            by_cases ho1 : i < l1.length
            · have yo : (i : Int) < (l1.length : Int) := by omega
              obtain ⟨kb1, ko1, rfl, hk1⟩ := HI1.out i ho1
              have ck1 := hk1 wz HW.out
              have hin := HF1.out l1[i] (List.getElem_mem ho1)
              have hrs1 : (1 : Int) ≤ (rs.length : Int) := by omega
              have cp := pick17_any l1[i] (rs.length : Int) wz hin.1 hin.2 hrs1 (by omega)
              have hpk := pk_rng l1[i] (rs.length : Int) hrs1
              generalize l1[i] = raw at *
              generalize pk raw (rs.length : Int) = pc at *
              obtain ⟨c, rfl⟩ : ∃ c : Nat, pc = (c : Int) := ⟨pc.toNat, by omega⟩
              have hc : c < rs.length := by omega
              clear hpk hin hk1
              go_wp2_with (fail)
              refine cp.mono ?_
              rintro e w5 ⟨rfl, rfl⟩
              clear cp ck1 hrs1
              obtain ⟨cb2, co2, rfl, hcl2⟩ := hrit.out c hc
              have HS1 : Hid (∀ W' : World, Keeps w3.heap.size wz W' → W'.cell? ⟨cb, co + i, none⟩ = some (.int .i64 ((l[i] : Nat) : Int)) ∧ W'.cell? ⟨cb2, co2 + c, none⟩ = some (.int .i64 ((rs[c] : Nat) : Int))) := Lib.hid fun (W' : World) h => ⟨hcl.out W' h, hcl2 W' h⟩
              clear hcl2
              have hrl2 := HR.out.sub rs[c] (List.getElem_mem hc)
              have hrc4 := hlk rs[c] hrl2
              have hsum : ∀ W : World, (binOp .add 3 (.int .i64 (c : Int)) (.int .i64 1)).run Try.prog W = .ok (.int .i64 ((c : Int) + 1)) W := sum_one c (by omega)
              have cA := one_set (HR.out.oa.below (Below.drew_ wz)) (HR.out.ob.below (Below.drew_ wz)) (fun q hq => turned_ge HhB.out (Nat.le_trans hS hq)) l[i] hkl ((l[i] : Nat) : Int) (by omega) (by omega) l (fun k hk h => keyF_mem h) (by omega)
              obtain ⟨li, hle⟩ : ∃ li : Nat, l[i] = li := ⟨_, rfl⟩
              obtain ⟨rc, hre⟩ : ∃ rc : Nat, rs[c] = rc := ⟨_, rfl⟩
              rw [hle, hre] at HS1
              rw [hle] at cA hkl
              rw [hre] at hrl2 hrc4
              have hli2 := Lib.hid hle
              have hrc2 := Lib.hid hre
              clear hle hre
              go_upto_region 26 with (fail)
              refine wp_region_held_drew (S := fun W => W.cell? ⟨cb, co + i, none⟩ = some (.int .i64 (li : Int)) ∧ W.cell? ⟨cb2, co2 + c, none⟩ = some (.int .i64 (rc : Int))) (by kernel_rfl) (HS1.out _ (Keeps.drew _ _)) (fun hHeld => ?_)
              refine wpAnyH_takeD (i := 0) (some 86) rfl (by kernel_rfl) (by kernel_rfl) (by kernel_rfl) rfl (fun _ _ _ h => h) (Or.inl ⟨by rfl, by rintro w ⟨hs1, hs2⟩; first | rfl | (go_simp; done) | (go_simp; rfl)⟩) (by assumption) ?_
              simp only [Act.put, List.setIfInBounds_toArray, List.set_cons_zero, List.set_cons_succ]
              refine wpAnyH_takeD (i := 1) (some 87) rfl (by kernel_rfl) (by kernel_rfl) (by kernel_rfl) rfl (fun _ _ _ h => h) (Or.inl ⟨by rfl, by rintro w ⟨hs1, hs2⟩; first | rfl | (go_simp; done) | (go_simp; rfl)⟩) (by assumption) ?_
              simp only [Act.put, List.setIfInBounds_toArray, List.set_cons_zero, List.set_cons_succ]
              refine wpAnyH_takeD (i := 2) (some 88) rfl (by kernel_rfl) (by kernel_rfl) (by kernel_rfl) rfl (fun _ _ _ h => h) (Or.inl ⟨by rfl, by rintro w ⟨hs1, hs2⟩; first | rfl | (go_simp; done) | (go_simp; rfl)⟩) (by assumption) ?_
              simp only [Act.put, List.setIfInBounds_toArray, List.set_cons_zero, List.set_cons_succ]
              refine wpAnyH_takeD (i := 3) (some 89) rfl (by kernel_rfl) (by kernel_rfl) (by kernel_rfl) rfl (fun _ _ _ h => h) (Or.inl ⟨by rfl, by rintro w ⟨hs1, hs2⟩; first | rfl | (go_simp; done) | (go_simp; rfl)⟩) (by assumption) ?_
              simp only [Act.put, List.setIfInBounds_toArray, List.set_cons_zero, List.set_cons_succ]
              refine wpAnyH_takeD (i := 4) (v := Value.pointer (some ⟨cb, co + i, none⟩)) (some 90) rfl (by kernel_rfl) (by kernel_rfl) (by kernel_rfl) rfl (fun _ _ _ h => h) (yieldsIf_index_run (by rfl) _ _ rfl rfl rfl (ints_at cb co _ _ i hlt)) (by assumption) ?_
              simp only [Act.put, List.setIfInBounds_toArray, List.set_cons_zero, List.set_cons_succ]
              refine wpAnyH_takeD (i := 5) (v := Value.int .i64 (li : Int)) (some 91) rfl (by kernel_rfl) (by kernel_rfl) (by kernel_rfl) rfl (fun _ _ _ h => h) (yieldsIf_load_run (by rfl) _ rfl rfl (fun _ hs => int_load hs.1)) (by assumption) ?_
              simp only [Act.put, List.setIfInBounds_toArray, List.set_cons_zero, List.set_cons_succ]
              refine wpAnyH_takeD (i := 6) (some 92) rfl (by kernel_rfl) (by kernel_rfl) (by kernel_rfl) rfl (fun _ _ _ h => h) (Or.inl ⟨by rfl, by rintro w ⟨hs1, hs2⟩; first | rfl | (go_simp; done) | (go_simp; rfl)⟩) (by assumption) ?_
              simp only [Act.put, List.setIfInBounds_toArray, List.set_cons_zero, List.set_cons_succ]
              refine wpAnyH_takeD (i := 7) (some 93) rfl (by kernel_rfl) (by kernel_rfl) (by kernel_rfl) rfl (fun _ _ _ h => h) (Or.inl ⟨by rfl, by rintro w ⟨hs1, hs2⟩; first | rfl | (go_simp; done) | (go_simp; rfl)⟩) (by assumption) ?_
              simp only [Act.put, List.setIfInBounds_toArray, List.set_cons_zero, List.set_cons_succ]
              refine wpAnyH_takeD (i := 8) (v := Value.pointer (some ⟨cb, co + i, none⟩)) (some 94) rfl (by kernel_rfl) (by kernel_rfl) (by kernel_rfl) rfl (fun _ _ _ h => h) (yieldsIf_index_run (by rfl) _ _ rfl rfl rfl (ints_at cb co _ _ i hlt)) (by assumption) ?_
              simp only [Act.put, List.setIfInBounds_toArray, List.set_cons_zero, List.set_cons_succ]
              refine wpAnyH_takeD (i := 9) (v := Value.int .i64 (li : Int)) (some 95) rfl (by kernel_rfl) (by kernel_rfl) (by kernel_rfl) rfl (fun _ _ _ h => h) (yieldsIf_load_run (by rfl) _ rfl rfl (fun _ hs => int_load hs.1)) (by assumption) ?_
              simp only [Act.put, List.setIfInBounds_toArray, List.set_cons_zero, List.set_cons_succ]
              refine wpAnyH_ready (rs := [10]) (by kernel_rfl) (by simp) ?_
              refine AllReadyH.cons rfl (fun K hK => ?_) AllReadyH.nil
              go_simp
              refine cA.mono ?_
              rintro x wa ⟨rfl, oA1, oB1, T1⟩
              have K1 := (Keeps.drew w3.heap.size wz).trans (T1.keeps HhA.out)
              refine hK.out _ _ (HS1.out _ K1) (fun hHeld => ?_)
              clear hK
              try simp only [Act.put, List.setIfInBounds_toArray, List.set_cons_zero, List.set_cons_succ]
              have cB := one_set oB1 oA1 (fun q hq => turned_ge HhA.out (Nat.le_trans (Nat.le_trans hS K1.1) hq)) rc hrc4 9999 (by decide) (by decide) l (fun k hk h => keyF_mem h) (by omega)
              have W1 := (HW.out.trans ((Below.drew_ wz).mono hWz)).trans (T1.below' HloA.out hWz)
              clear oB1 oA1 T1 cA
              have K1' := Lib.hid K1
              have W1' := Lib.hid W1
              clear K1 W1
              refine wpAnyH_takeD (i := 11) (v := Value.bool false) (some 97) rfl (by kernel_rfl) (by kernel_rfl) (by kernel_rfl) rfl (fun _ _ _ h => h) (Or.inl ⟨by rfl, by rintro w ⟨hs1, hs2⟩; first | rfl | (go_simp; done) | (go_simp; rfl)⟩) (by assumption) ?_
              simp only [Act.put, List.setIfInBounds_toArray, List.set_cons_zero, List.set_cons_succ]
              refine wpAnyH_takeD (i := 12) (v := Value.bool false) (some 98) rfl (by kernel_rfl) (by kernel_rfl) (by kernel_rfl) rfl (fun _ _ _ h => h) (Or.inl ⟨by rfl, by rintro w ⟨hs1, hs2⟩; first | rfl | (go_simp; done) | (go_simp; rfl)⟩) (by assumption) ?_
              simp only [Act.put, List.setIfInBounds_toArray, List.set_cons_zero, List.set_cons_succ]
              refine wpAnyH_takeD (i := 13) (some 99) rfl (by kernel_rfl) (by kernel_rfl) (by kernel_rfl) rfl (fun _ _ _ h => h) (Or.inl ⟨by rfl, by rintro w ⟨hs1, hs2⟩; first | rfl | (go_simp; done) | (go_simp; rfl)⟩) (by assumption) ?_
              simp only [Act.put, List.setIfInBounds_toArray, List.set_cons_zero, List.set_cons_succ]
              refine wpAnyH_takeD (i := 14) (some 100) rfl (by kernel_rfl) (by kernel_rfl) (by kernel_rfl) rfl (fun _ _ _ h => h) (Or.inl ⟨by rfl, by rintro w ⟨hs1, hs2⟩; first | rfl | (go_simp; done) | (go_simp; rfl)⟩) (by assumption) ?_
              simp only [Act.put, List.setIfInBounds_toArray, List.set_cons_zero, List.set_cons_succ]
              refine wpAnyH_takeD (i := 15) (some 101) rfl (by kernel_rfl) (by kernel_rfl) (by kernel_rfl) rfl (fun _ _ _ h => h) (Or.inl ⟨by rfl, by rintro w ⟨hs1, hs2⟩; first | rfl | (go_simp; done) | (go_simp; rfl)⟩) (by assumption) ?_
              simp only [Act.put, List.setIfInBounds_toArray, List.set_cons_zero, List.set_cons_succ]
              refine wpAnyH_takeD (i := 16) (some 102) rfl (by kernel_rfl) (by kernel_rfl) (by kernel_rfl) rfl (fun _ _ _ h => h) (Or.inl ⟨by rfl, by rintro w ⟨hs1, hs2⟩; first | rfl | (go_simp; done) | (go_simp; rfl)⟩) (by assumption) ?_
              simp only [Act.put, List.setIfInBounds_toArray, List.set_cons_zero, List.set_cons_succ]
              refine wpAnyH_takeD (i := 17) (v := Value.pointer (some ⟨cb2, co2 + c, none⟩)) (some 103) rfl (by kernel_rfl) (by kernel_rfl) (by kernel_rfl) rfl (fun _ _ _ h => h) (yieldsIf_index_run (by rfl) _ _ rfl rfl rfl (ints_at cb2 co2 _ _ c hc)) (by assumption) ?_
              simp only [Act.put, List.setIfInBounds_toArray, List.set_cons_zero, List.set_cons_succ]
              refine wpAnyH_takeD (i := 18) (v := Value.int .i64 (rc : Int)) (some 104) rfl (by kernel_rfl) (by kernel_rfl) (by kernel_rfl) rfl (fun _ _ _ h => h) (yieldsIf_load_run (by rfl) _ rfl rfl (fun _ hs => int_load hs.2)) (by assumption) ?_
              simp only [Act.put, List.setIfInBounds_toArray, List.set_cons_zero, List.set_cons_succ]
              refine wpAnyH_ready (rs := [19]) (by kernel_rfl) (by simp) ?_
              refine AllReadyH.cons rfl (fun K hK => ?_) AllReadyH.nil
              go_simp
              refine cB.mono ?_
              rintro x wb ⟨rfl, oB2, oA2, T2⟩
              have K2 := K1'.out.trans (T2.keeps HhB.out)
              refine hK.out _ _ (HS1.out _ K2) (fun hHeld => ?_)
              clear hK
              try simp only [Act.put, List.setIfInBounds_toArray, List.set_cons_zero, List.set_cons_succ]
              have cC := one_set oB2 oA2 (fun q hq => turned_ge HhA.out (Nat.le_trans (Nat.le_trans hS K2.1) hq)) rc hrc4 (rc : Int) (by omega) (by omega) l (fun k hk h => by
                by_cases e : k = rc
                · rw [e]; exact hrl2
                · rw [if_neg e] at h; exact keyF_mem h) (by omega)
              have W2 := W1'.out.trans (T2.below' HloB.out (Nat.le_trans hWz K1'.out.1))
              clear oB2 oA2 T2 cB K1' W1'
              have K2' := Lib.hid K2
              have W2' := Lib.hid W2
              clear K2 W2
              refine wpAnyH_takeD (i := 20) (v := Value.bool false) (some 106) rfl (by kernel_rfl) (by kernel_rfl) (by kernel_rfl) rfl (fun _ _ _ h => h) (Or.inl ⟨by rfl, by rintro w ⟨hs1, hs2⟩; first | rfl | (go_simp; done) | (go_simp; rfl)⟩) (by assumption) ?_
              simp only [Act.put, List.setIfInBounds_toArray, List.set_cons_zero, List.set_cons_succ]
              refine wpAnyH_takeD (i := 21) (v := Value.bool false) (some 107) rfl (by kernel_rfl) (by kernel_rfl) (by kernel_rfl) rfl (fun _ _ _ h => h) (Or.inl ⟨by rfl, by rintro w ⟨hs1, hs2⟩; first | rfl | (go_simp; done) | (go_simp; rfl)⟩) (by assumption) ?_
              simp only [Act.put, List.setIfInBounds_toArray, List.set_cons_zero, List.set_cons_succ]
              refine wpAnyH_takeD (i := 22) (v := Value.bool false) (some 108) rfl (by kernel_rfl) (by kernel_rfl) (by kernel_rfl) rfl (fun _ _ _ h => h) (Or.inl ⟨by rfl, by rintro w ⟨hs1, hs2⟩; first | rfl | (go_simp; done) | (go_simp; rfl)⟩) (by assumption) ?_
              simp only [Act.put, List.setIfInBounds_toArray, List.set_cons_zero, List.set_cons_succ]
              refine wpAnyH_takeD (i := 23) (some 109) rfl (by kernel_rfl) (by kernel_rfl) (by kernel_rfl) rfl (fun _ _ _ h => h) (Or.inl ⟨by rfl, by rintro w ⟨hs1, hs2⟩; first | rfl | (go_simp; done) | (go_simp; rfl)⟩) (by assumption) ?_
              simp only [Act.put, List.setIfInBounds_toArray, List.set_cons_zero, List.set_cons_succ]
              refine wpAnyH_takeD (i := 24) (some 110) rfl (by kernel_rfl) (by kernel_rfl) (by kernel_rfl) rfl (fun _ _ _ h => h) (Or.inl ⟨by rfl, by rintro w ⟨hs1, hs2⟩; first | rfl | (go_simp; done) | (go_simp; rfl)⟩) (by assumption) ?_
              simp only [Act.put, List.setIfInBounds_toArray, List.set_cons_zero, List.set_cons_succ]
              refine wpAnyH_takeD (i := 25) (some 111) rfl (by kernel_rfl) (by kernel_rfl) (by kernel_rfl) rfl (fun _ _ _ h => h) (Or.inl ⟨by rfl, by rintro w ⟨hs1, hs2⟩; first | rfl | (go_simp; done) | (go_simp; rfl)⟩) (by assumption) ?_
              simp only [Act.put, List.setIfInBounds_toArray, List.set_cons_zero, List.set_cons_succ]
              refine wpAnyH_takeD (i := 26) (some 112) rfl (by kernel_rfl) (by kernel_rfl) (by kernel_rfl) rfl (fun _ _ _ h => h) (Or.inl ⟨by rfl, by rintro w ⟨hs1, hs2⟩; first | rfl | (go_simp; done) | (go_simp; rfl)⟩) (by assumption) ?_
              simp only [Act.put, List.setIfInBounds_toArray, List.set_cons_zero, List.set_cons_succ]
              refine wpAnyH_takeD (i := 27) (v := Value.pointer (some ⟨cb2, co2 + c, none⟩)) (some 113) rfl (by kernel_rfl) (by kernel_rfl) (by kernel_rfl) rfl (fun _ _ _ h => h) (yieldsIf_index_run (by rfl) _ _ rfl rfl rfl (ints_at cb2 co2 _ _ c hc)) (by assumption) ?_
              simp only [Act.put, List.setIfInBounds_toArray, List.set_cons_zero, List.set_cons_succ]
              refine wpAnyH_takeD (i := 28) (v := Value.int .i64 (rc : Int)) (some 114) rfl (by kernel_rfl) (by kernel_rfl) (by kernel_rfl) rfl (fun _ _ _ h => h) (yieldsIf_load_run (by rfl) _ rfl rfl (fun _ hs => int_load hs.2)) (by assumption) ?_
              simp only [Act.put, List.setIfInBounds_toArray, List.set_cons_zero, List.set_cons_succ]
              refine wpAnyH_takeD (i := 29) (some 115) rfl (by kernel_rfl) (by kernel_rfl) (by kernel_rfl) rfl (fun _ _ _ h => h) (Or.inl ⟨by rfl, by rintro w ⟨hs1, hs2⟩; first | rfl | (go_simp; done) | (go_simp; rfl)⟩) (by assumption) ?_
              simp only [Act.put, List.setIfInBounds_toArray, List.set_cons_zero, List.set_cons_succ]
              refine wpAnyH_takeD (i := 30) (some 116) rfl (by kernel_rfl) (by kernel_rfl) (by kernel_rfl) rfl (fun _ _ _ h => h) (Or.inl ⟨by rfl, by rintro w ⟨hs1, hs2⟩; first | rfl | (go_simp; done) | (go_simp; rfl)⟩) (by assumption) ?_
              simp only [Act.put, List.setIfInBounds_toArray, List.set_cons_zero, List.set_cons_succ]
              refine wpAnyH_takeD (i := 31) (v := Value.pointer (some ⟨cb2, co2 + c, none⟩)) (some 117) rfl (by kernel_rfl) (by kernel_rfl) (by kernel_rfl) rfl (fun _ _ _ h => h) (yieldsIf_index_run (by rfl) _ _ rfl rfl rfl (ints_at cb2 co2 _ _ c hc)) (by assumption) ?_
              simp only [Act.put, List.setIfInBounds_toArray, List.set_cons_zero, List.set_cons_succ]
              refine wpAnyH_takeD (i := 32) (v := Value.int .i64 (rc : Int)) (some 118) rfl (by kernel_rfl) (by kernel_rfl) (by kernel_rfl) rfl (fun _ _ _ h => h) (yieldsIf_load_run (by rfl) _ rfl rfl (fun _ hs => int_load hs.2)) (by assumption) ?_
              simp only [Act.put, List.setIfInBounds_toArray, List.set_cons_zero, List.set_cons_succ]
              refine wpAnyH_ready (rs := [33]) (by kernel_rfl) (by simp) ?_
              refine AllReadyH.cons rfl (fun K hK => ?_) AllReadyH.nil
              go_simp
              refine cC.mono ?_
              rintro x wc ⟨rfl, oB3, oA3, T3⟩
              have K3 := K2'.out.trans (T3.keeps HhB.out)
              refine hK.out _ _ (HS1.out _ K3) (fun hHeld => ?_)
              clear hK
              try simp only [Act.put, List.setIfInBounds_toArray, List.set_cons_zero, List.set_cons_succ]
              have W3 := W2'.out.trans (T3.below' HloB.out (Nat.le_trans hWz K2'.out.1))
              clear T3 cC K2' W2'
              have K3' := Lib.hid K3
              have W3' := Lib.hid W3
              have OB3 := Lib.hid oB3
              have OA3 := Lib.hid oA3
              clear K3 W3 oB3 oA3
              refine wpAnyH_takeD (i := 34) (v := Value.bool false) (some 120) rfl (by kernel_rfl) (by kernel_rfl) (by kernel_rfl) rfl (fun _ _ _ h => h) (Or.inl ⟨by rfl, by rintro w ⟨hs1, hs2⟩; first | rfl | (go_simp; done) | (go_simp; rfl)⟩) (by assumption) ?_
              simp only [Act.put, List.setIfInBounds_toArray, List.set_cons_zero, List.set_cons_succ]
              refine wpAnyH_takeD (i := 35) (v := Value.bool false) (some 121) rfl (by kernel_rfl) (by kernel_rfl) (by kernel_rfl) rfl (fun _ _ _ h => h) (Or.inl ⟨by rfl, by rintro w ⟨hs1, hs2⟩; first | rfl | (go_simp; done) | (go_simp; rfl)⟩) (by assumption) ?_
              simp only [Act.put, List.setIfInBounds_toArray, List.set_cons_zero, List.set_cons_succ]
              refine wpAnyH_done (by kernel_rfl) ?_ _
              have hor2 := HOr.out.same' (w' := wc) (fun q hq => K3'.out.2 q (HOr.out.o.lt q hq).1 (HOr.out.o.lt q hq).2)
              obtain ⟨u1, u2, hu1, hu2, ru1, ru2⟩ := parts_any hor2 hc
              obtain ⟨v8, w8, hap, o8, b8, hk8⟩ := Own.pushAll (P := Try.prog) (T := 28) Try.underlying28 q1 q2 q3 q4 rfl (Own.nil wc.drew wc.heap.size 3) (ru1.below (Below.drew_ wc)) (fun x hx => by
                obtain ⟨k, _, rfl⟩ := List.mem_map.1 hx; rfl) (Nat.le_refl _) (by rw [List.length_map, List.length_nil, List.length_take]; omega) (by rw [List.length_map, List.length_nil, List.length_take]; omega)
              rw [List.nil_append] at o8
              have b18 := (Below.drew_ wc).trans b8
              obtain ⟨v9, w9, hap9, o9, b9, hk9⟩ := Own.pushAll (P := Try.prog) (T := 28) Try.underlying28 q1 q2 q3 q4 rfl o8 (ru2.below b18) (fun x hx => by
                obtain ⟨k, _, rfl⟩ := List.mem_map.1 hx; rfl) b18.size (by rw [List.length_map, List.length_map, List.length_take, List.length_drop]; omega) (by rw [List.length_map, List.length_map, List.length_take, List.length_drop]; omega)
              rw [← List.map_append] at o9
              have b19 := b18.trans b9
              have F9 : Hid (Rel3 W w3.heap.size A B l (some ⟨cb, co, none⟩) vc (i + 1) (rs.take c ++ rs.drop (c + 1)) v9 w9) := Lib.hid (rel3_next HR.out hlt hc hli2.out hrc2.out K3'.out OA3.out OB3.out W3'.out b19 o9)
              clear o8 b8 hk8 o9 b9 hk9 b18 b19 ru1 ru2 hor2 K3' W3' OB3 OA3 hHeld
              go_upto_region 28 with (fail)
              refine wp_region_held_drew (S := fun _ => True) (by kernel_rfl) trivial (fun hHeld => ?_)
              refine wpAnyH_takeD (i := 0) (some 122) rfl (by kernel_rfl) (by kernel_rfl) (by kernel_rfl) rfl (fun _ _ _ h => h) (Or.inl ⟨by rfl, by rintro w hs1; first | rfl | (go_simp; done) | (go_simp; rfl)⟩) (by assumption) ?_
              simp only [Act.put, List.setIfInBounds_toArray, List.set_cons_zero, List.set_cons_succ]
              refine wpAnyH_takeD (i := 1) (some 123) rfl (by kernel_rfl) (by kernel_rfl) (by kernel_rfl) rfl (fun _ _ _ h => h) (Or.inl ⟨by rfl, by rintro w hs1; first | rfl | (go_simp; done) | (go_simp; rfl)⟩) (by assumption) ?_
              simp only [Act.put, List.setIfInBounds_toArray, List.set_cons_zero, List.set_cons_succ]
              refine wpAnyH_takeD (i := 2) (v := u1) (some 124) rfl (by kernel_rfl) (by kernel_rfl) (by kernel_rfl) rfl (fun _ _ _ h => h) (yieldsIf_hi_run (by rfl) _ _ rfl rfl rfl (fun W => hu1 W)) (by assumption) ?_
              simp only [Act.put, List.setIfInBounds_toArray, List.set_cons_zero, List.set_cons_succ]
              refine wpAnyH_takeD (i := 4) (some 126) rfl (by kernel_rfl) (by kernel_rfl) (by kernel_rfl) rfl (fun _ _ _ h => h) (Or.inl ⟨by rfl, by rintro w hs1; first | rfl | (go_simp; done) | (go_simp; rfl)⟩) (by assumption) ?_
              simp only [Act.put, List.setIfInBounds_toArray, List.set_cons_zero, List.set_cons_succ]
              refine wpAnyH_takeD (i := 5) (some 127) rfl (by kernel_rfl) (by kernel_rfl) (by kernel_rfl) rfl (fun _ _ _ h => h) (Or.inl ⟨by rfl, by rintro w hs1; first | rfl | (go_simp; done) | (go_simp; rfl)⟩) (by assumption) ?_
              simp only [Act.put, List.setIfInBounds_toArray, List.set_cons_zero, List.set_cons_succ]
              refine wpAnyH_takeD (i := 6) (v := Value.int .i64 ((c : Int) + 1)) (some 128) rfl (by kernel_rfl) (by kernel_rfl) (by kernel_rfl) rfl (fun _ _ _ h => h) (yieldsIf_bin_run (by rfl) _ _ rfl rfl rfl (fun W => by rfl) (fun W => hsum W)) (by assumption) ?_
              simp only [Act.put, List.setIfInBounds_toArray, List.set_cons_zero, List.set_cons_succ]
              refine wpAnyH_takeD (i := 7) (v := u2) (some 129) rfl (by kernel_rfl) (by kernel_rfl) (by kernel_rfl) rfl (fun _ _ _ h => h) (yieldsIf_lo_run (by rfl) _ _ rfl rfl rfl (fun W => hu2 W)) (by assumption) ?_
              simp only [Act.put, List.setIfInBounds_toArray, List.set_cons_zero, List.set_cons_succ]
              refine wpAnyH_ready (rs := [3]) (by kernel_rfl) (by simp) ?_
              refine AllReadyH.cons rfl (fun K hK => ?_) AllReadyH.nil
              refine step_append_run (d := some 125) hap _ _ rfl rfl rfl rfl rfl rfl ?_
              refine hK.out _ _ trivial (fun hHeld => ?_)
              clear hK hap
              try simp only [Act.put, List.setIfInBounds_toArray, List.set_cons_zero, List.set_cons_succ]
              refine wpAnyH_ready (rs := [8]) (by kernel_rfl) (by simp) ?_
              refine AllReadyH.cons rfl (fun K hK => ?_) AllReadyH.nil
              refine step_append_run (d := some 130) hap9 _ _ rfl rfl rfl rfl rfl rfl ?_
              refine hK.out _ _ trivial (fun hHeld => ?_)
              clear hK hap9
              try simp only [Act.put, List.setIfInBounds_toArray, List.set_cons_zero, List.set_cons_succ]
              refine wpAnyH_takeD (i := 9) (some 14) rfl (by kernel_rfl) (by kernel_rfl) (by kernel_rfl) rfl (fun _ _ _ h => h) (Or.inl ⟨by rfl, by rintro w hs1; first | rfl | (go_simp; done) | (go_simp; rfl)⟩) (by assumption) ?_
              simp only [Act.put, List.setIfInBounds_toArray, List.set_cons_zero, List.set_cons_succ]
              refine wpAnyH_done (by kernel_rfl) ?_ _
              go_wp2_with (fail)
              go_roundw
              case rel => exact ⟨i + 1, _, by go_num, F9.out⟩
              case measure => simp [intOf]; omega
            · have yo : ¬ ((i : Int) < (l1.length : Int)) := by omega
              obtain ⟨c, hc0⟩ : ∃ c : Nat, c = 0 := ⟨_, rfl⟩
              have hc : c < rs.length := by omega
              have hcz : Hid ((0 : Int) = (c : Int)) := Lib.hid (by omega)
              clear hc0
              obtain ⟨cb2, co2, rfl, hcl2⟩ := hrit.out c hc
              have HS1 : Hid (∀ W' : World, Keeps w3.heap.size wz W' → W'.cell? ⟨cb, co + i, none⟩ = some (.int .i64 ((l[i] : Nat) : Int)) ∧ W'.cell? ⟨cb2, co2 + c, none⟩ = some (.int .i64 ((rs[c] : Nat) : Int))) := Lib.hid fun (W' : World) h => ⟨hcl.out W' h, hcl2 W' h⟩
              clear hcl2
              have hrl2 := HR.out.sub rs[c] (List.getElem_mem hc)
              have hrc4 := hlk rs[c] hrl2
              have hsum : ∀ W : World, (binOp .add 3 (.int .i64 (c : Int)) (.int .i64 1)).run Try.prog W = .ok (.int .i64 ((c : Int) + 1)) W := sum_one c (by omega)
              have cA := one_set (HR.out.oa.below (Below.drew_ wz)) (HR.out.ob.below (Below.drew_ wz)) (fun q hq => turned_ge HhB.out (Nat.le_trans hS hq)) l[i] hkl ((l[i] : Nat) : Int) (by omega) (by omega) l (fun k hk h => keyF_mem h) (by omega)
              obtain ⟨li, hle⟩ : ∃ li : Nat, l[i] = li := ⟨_, rfl⟩
              obtain ⟨rc, hre⟩ : ∃ rc : Nat, rs[c] = rc := ⟨_, rfl⟩
              rw [hle, hre] at HS1
              rw [hle] at cA hkl
              rw [hre] at hrl2 hrc4
              have hli2 := Lib.hid hle
              have hrc2 := Lib.hid hre
              clear hle hre
              go_upto_region 26 with (fail)
              rw [hcz.out]
              refine wp_region_held_drew (S := fun W => W.cell? ⟨cb, co + i, none⟩ = some (.int .i64 (li : Int)) ∧ W.cell? ⟨cb2, co2 + c, none⟩ = some (.int .i64 (rc : Int))) (by kernel_rfl) (HS1.out _ (Keeps.drew _ _)) (fun hHeld => ?_)
              refine wpAnyH_takeD (i := 0) (some 86) rfl (by kernel_rfl) (by kernel_rfl) (by kernel_rfl) rfl (fun _ _ _ h => h) (Or.inl ⟨by rfl, by rintro w ⟨hs1, hs2⟩; first | rfl | (go_simp; done) | (go_simp; rfl)⟩) (by assumption) ?_
              simp only [Act.put, List.setIfInBounds_toArray, List.set_cons_zero, List.set_cons_succ]
              refine wpAnyH_takeD (i := 1) (some 87) rfl (by kernel_rfl) (by kernel_rfl) (by kernel_rfl) rfl (fun _ _ _ h => h) (Or.inl ⟨by rfl, by rintro w ⟨hs1, hs2⟩; first | rfl | (go_simp; done) | (go_simp; rfl)⟩) (by assumption) ?_
              simp only [Act.put, List.setIfInBounds_toArray, List.set_cons_zero, List.set_cons_succ]
              refine wpAnyH_takeD (i := 2) (some 88) rfl (by kernel_rfl) (by kernel_rfl) (by kernel_rfl) rfl (fun _ _ _ h => h) (Or.inl ⟨by rfl, by rintro w ⟨hs1, hs2⟩; first | rfl | (go_simp; done) | (go_simp; rfl)⟩) (by assumption) ?_
              simp only [Act.put, List.setIfInBounds_toArray, List.set_cons_zero, List.set_cons_succ]
              refine wpAnyH_takeD (i := 3) (some 89) rfl (by kernel_rfl) (by kernel_rfl) (by kernel_rfl) rfl (fun _ _ _ h => h) (Or.inl ⟨by rfl, by rintro w ⟨hs1, hs2⟩; first | rfl | (go_simp; done) | (go_simp; rfl)⟩) (by assumption) ?_
              simp only [Act.put, List.setIfInBounds_toArray, List.set_cons_zero, List.set_cons_succ]
              refine wpAnyH_takeD (i := 4) (v := Value.pointer (some ⟨cb, co + i, none⟩)) (some 90) rfl (by kernel_rfl) (by kernel_rfl) (by kernel_rfl) rfl (fun _ _ _ h => h) (yieldsIf_index_run (by rfl) _ _ rfl rfl rfl (ints_at cb co _ _ i hlt)) (by assumption) ?_
              simp only [Act.put, List.setIfInBounds_toArray, List.set_cons_zero, List.set_cons_succ]
              refine wpAnyH_takeD (i := 5) (v := Value.int .i64 (li : Int)) (some 91) rfl (by kernel_rfl) (by kernel_rfl) (by kernel_rfl) rfl (fun _ _ _ h => h) (yieldsIf_load_run (by rfl) _ rfl rfl (fun _ hs => int_load hs.1)) (by assumption) ?_
              simp only [Act.put, List.setIfInBounds_toArray, List.set_cons_zero, List.set_cons_succ]
              refine wpAnyH_takeD (i := 6) (some 92) rfl (by kernel_rfl) (by kernel_rfl) (by kernel_rfl) rfl (fun _ _ _ h => h) (Or.inl ⟨by rfl, by rintro w ⟨hs1, hs2⟩; first | rfl | (go_simp; done) | (go_simp; rfl)⟩) (by assumption) ?_
              simp only [Act.put, List.setIfInBounds_toArray, List.set_cons_zero, List.set_cons_succ]
              refine wpAnyH_takeD (i := 7) (some 93) rfl (by kernel_rfl) (by kernel_rfl) (by kernel_rfl) rfl (fun _ _ _ h => h) (Or.inl ⟨by rfl, by rintro w ⟨hs1, hs2⟩; first | rfl | (go_simp; done) | (go_simp; rfl)⟩) (by assumption) ?_
              simp only [Act.put, List.setIfInBounds_toArray, List.set_cons_zero, List.set_cons_succ]
              refine wpAnyH_takeD (i := 8) (v := Value.pointer (some ⟨cb, co + i, none⟩)) (some 94) rfl (by kernel_rfl) (by kernel_rfl) (by kernel_rfl) rfl (fun _ _ _ h => h) (yieldsIf_index_run (by rfl) _ _ rfl rfl rfl (ints_at cb co _ _ i hlt)) (by assumption) ?_
              simp only [Act.put, List.setIfInBounds_toArray, List.set_cons_zero, List.set_cons_succ]
              refine wpAnyH_takeD (i := 9) (v := Value.int .i64 (li : Int)) (some 95) rfl (by kernel_rfl) (by kernel_rfl) (by kernel_rfl) rfl (fun _ _ _ h => h) (yieldsIf_load_run (by rfl) _ rfl rfl (fun _ hs => int_load hs.1)) (by assumption) ?_
              simp only [Act.put, List.setIfInBounds_toArray, List.set_cons_zero, List.set_cons_succ]
              refine wpAnyH_ready (rs := [10]) (by kernel_rfl) (by simp) ?_
              refine AllReadyH.cons rfl (fun K hK => ?_) AllReadyH.nil
              go_simp
              refine cA.mono ?_
              rintro x wa ⟨rfl, oA1, oB1, T1⟩
              have K1 := (Keeps.drew w3.heap.size wz).trans (T1.keeps HhA.out)
              refine hK.out _ _ (HS1.out _ K1) (fun hHeld => ?_)
              clear hK
              try simp only [Act.put, List.setIfInBounds_toArray, List.set_cons_zero, List.set_cons_succ]
              have cB := one_set oB1 oA1 (fun q hq => turned_ge HhA.out (Nat.le_trans (Nat.le_trans hS K1.1) hq)) rc hrc4 9999 (by decide) (by decide) l (fun k hk h => keyF_mem h) (by omega)
              have W1 := (HW.out.trans ((Below.drew_ wz).mono hWz)).trans (T1.below' HloA.out hWz)
              clear oB1 oA1 T1 cA
              have K1' := Lib.hid K1
              have W1' := Lib.hid W1
              clear K1 W1
              refine wpAnyH_takeD (i := 11) (v := Value.bool false) (some 97) rfl (by kernel_rfl) (by kernel_rfl) (by kernel_rfl) rfl (fun _ _ _ h => h) (Or.inl ⟨by rfl, by rintro w ⟨hs1, hs2⟩; first | rfl | (go_simp; done) | (go_simp; rfl)⟩) (by assumption) ?_
              simp only [Act.put, List.setIfInBounds_toArray, List.set_cons_zero, List.set_cons_succ]
              refine wpAnyH_takeD (i := 12) (v := Value.bool false) (some 98) rfl (by kernel_rfl) (by kernel_rfl) (by kernel_rfl) rfl (fun _ _ _ h => h) (Or.inl ⟨by rfl, by rintro w ⟨hs1, hs2⟩; first | rfl | (go_simp; done) | (go_simp; rfl)⟩) (by assumption) ?_
              simp only [Act.put, List.setIfInBounds_toArray, List.set_cons_zero, List.set_cons_succ]
              refine wpAnyH_takeD (i := 13) (some 99) rfl (by kernel_rfl) (by kernel_rfl) (by kernel_rfl) rfl (fun _ _ _ h => h) (Or.inl ⟨by rfl, by rintro w ⟨hs1, hs2⟩; first | rfl | (go_simp; done) | (go_simp; rfl)⟩) (by assumption) ?_
              simp only [Act.put, List.setIfInBounds_toArray, List.set_cons_zero, List.set_cons_succ]
              refine wpAnyH_takeD (i := 14) (some 100) rfl (by kernel_rfl) (by kernel_rfl) (by kernel_rfl) rfl (fun _ _ _ h => h) (Or.inl ⟨by rfl, by rintro w ⟨hs1, hs2⟩; first | rfl | (go_simp; done) | (go_simp; rfl)⟩) (by assumption) ?_
              simp only [Act.put, List.setIfInBounds_toArray, List.set_cons_zero, List.set_cons_succ]
              refine wpAnyH_takeD (i := 15) (some 101) rfl (by kernel_rfl) (by kernel_rfl) (by kernel_rfl) rfl (fun _ _ _ h => h) (Or.inl ⟨by rfl, by rintro w ⟨hs1, hs2⟩; first | rfl | (go_simp; done) | (go_simp; rfl)⟩) (by assumption) ?_
              simp only [Act.put, List.setIfInBounds_toArray, List.set_cons_zero, List.set_cons_succ]
              refine wpAnyH_takeD (i := 16) (some 102) rfl (by kernel_rfl) (by kernel_rfl) (by kernel_rfl) rfl (fun _ _ _ h => h) (Or.inl ⟨by rfl, by rintro w ⟨hs1, hs2⟩; first | rfl | (go_simp; done) | (go_simp; rfl)⟩) (by assumption) ?_
              simp only [Act.put, List.setIfInBounds_toArray, List.set_cons_zero, List.set_cons_succ]
              refine wpAnyH_takeD (i := 17) (v := Value.pointer (some ⟨cb2, co2 + c, none⟩)) (some 103) rfl (by kernel_rfl) (by kernel_rfl) (by kernel_rfl) rfl (fun _ _ _ h => h) (yieldsIf_index_run (by rfl) _ _ rfl rfl rfl (ints_at cb2 co2 _ _ c hc)) (by assumption) ?_
              simp only [Act.put, List.setIfInBounds_toArray, List.set_cons_zero, List.set_cons_succ]
              refine wpAnyH_takeD (i := 18) (v := Value.int .i64 (rc : Int)) (some 104) rfl (by kernel_rfl) (by kernel_rfl) (by kernel_rfl) rfl (fun _ _ _ h => h) (yieldsIf_load_run (by rfl) _ rfl rfl (fun _ hs => int_load hs.2)) (by assumption) ?_
              simp only [Act.put, List.setIfInBounds_toArray, List.set_cons_zero, List.set_cons_succ]
              refine wpAnyH_ready (rs := [19]) (by kernel_rfl) (by simp) ?_
              refine AllReadyH.cons rfl (fun K hK => ?_) AllReadyH.nil
              go_simp
              refine cB.mono ?_
              rintro x wb ⟨rfl, oB2, oA2, T2⟩
              have K2 := K1'.out.trans (T2.keeps HhB.out)
              refine hK.out _ _ (HS1.out _ K2) (fun hHeld => ?_)
              clear hK
              try simp only [Act.put, List.setIfInBounds_toArray, List.set_cons_zero, List.set_cons_succ]
              have cC := one_set oB2 oA2 (fun q hq => turned_ge HhA.out (Nat.le_trans (Nat.le_trans hS K2.1) hq)) rc hrc4 (rc : Int) (by omega) (by omega) l (fun k hk h => by
                by_cases e : k = rc
                · rw [e]; exact hrl2
                · rw [if_neg e] at h; exact keyF_mem h) (by omega)
              have W2 := W1'.out.trans (T2.below' HloB.out (Nat.le_trans hWz K1'.out.1))
              clear oB2 oA2 T2 cB K1' W1'
              have K2' := Lib.hid K2
              have W2' := Lib.hid W2
              clear K2 W2
              refine wpAnyH_takeD (i := 20) (v := Value.bool false) (some 106) rfl (by kernel_rfl) (by kernel_rfl) (by kernel_rfl) rfl (fun _ _ _ h => h) (Or.inl ⟨by rfl, by rintro w ⟨hs1, hs2⟩; first | rfl | (go_simp; done) | (go_simp; rfl)⟩) (by assumption) ?_
              simp only [Act.put, List.setIfInBounds_toArray, List.set_cons_zero, List.set_cons_succ]
              refine wpAnyH_takeD (i := 21) (v := Value.bool false) (some 107) rfl (by kernel_rfl) (by kernel_rfl) (by kernel_rfl) rfl (fun _ _ _ h => h) (Or.inl ⟨by rfl, by rintro w ⟨hs1, hs2⟩; first | rfl | (go_simp; done) | (go_simp; rfl)⟩) (by assumption) ?_
              simp only [Act.put, List.setIfInBounds_toArray, List.set_cons_zero, List.set_cons_succ]
              refine wpAnyH_takeD (i := 22) (v := Value.bool false) (some 108) rfl (by kernel_rfl) (by kernel_rfl) (by kernel_rfl) rfl (fun _ _ _ h => h) (Or.inl ⟨by rfl, by rintro w ⟨hs1, hs2⟩; first | rfl | (go_simp; done) | (go_simp; rfl)⟩) (by assumption) ?_
              simp only [Act.put, List.setIfInBounds_toArray, List.set_cons_zero, List.set_cons_succ]
              refine wpAnyH_takeD (i := 23) (some 109) rfl (by kernel_rfl) (by kernel_rfl) (by kernel_rfl) rfl (fun _ _ _ h => h) (Or.inl ⟨by rfl, by rintro w ⟨hs1, hs2⟩; first | rfl | (go_simp; done) | (go_simp; rfl)⟩) (by assumption) ?_
              simp only [Act.put, List.setIfInBounds_toArray, List.set_cons_zero, List.set_cons_succ]
              refine wpAnyH_takeD (i := 24) (some 110) rfl (by kernel_rfl) (by kernel_rfl) (by kernel_rfl) rfl (fun _ _ _ h => h) (Or.inl ⟨by rfl, by rintro w ⟨hs1, hs2⟩; first | rfl | (go_simp; done) | (go_simp; rfl)⟩) (by assumption) ?_
              simp only [Act.put, List.setIfInBounds_toArray, List.set_cons_zero, List.set_cons_succ]
              refine wpAnyH_takeD (i := 25) (some 111) rfl (by kernel_rfl) (by kernel_rfl) (by kernel_rfl) rfl (fun _ _ _ h => h) (Or.inl ⟨by rfl, by rintro w ⟨hs1, hs2⟩; first | rfl | (go_simp; done) | (go_simp; rfl)⟩) (by assumption) ?_
              simp only [Act.put, List.setIfInBounds_toArray, List.set_cons_zero, List.set_cons_succ]
              refine wpAnyH_takeD (i := 26) (some 112) rfl (by kernel_rfl) (by kernel_rfl) (by kernel_rfl) rfl (fun _ _ _ h => h) (Or.inl ⟨by rfl, by rintro w ⟨hs1, hs2⟩; first | rfl | (go_simp; done) | (go_simp; rfl)⟩) (by assumption) ?_
              simp only [Act.put, List.setIfInBounds_toArray, List.set_cons_zero, List.set_cons_succ]
              refine wpAnyH_takeD (i := 27) (v := Value.pointer (some ⟨cb2, co2 + c, none⟩)) (some 113) rfl (by kernel_rfl) (by kernel_rfl) (by kernel_rfl) rfl (fun _ _ _ h => h) (yieldsIf_index_run (by rfl) _ _ rfl rfl rfl (ints_at cb2 co2 _ _ c hc)) (by assumption) ?_
              simp only [Act.put, List.setIfInBounds_toArray, List.set_cons_zero, List.set_cons_succ]
              refine wpAnyH_takeD (i := 28) (v := Value.int .i64 (rc : Int)) (some 114) rfl (by kernel_rfl) (by kernel_rfl) (by kernel_rfl) rfl (fun _ _ _ h => h) (yieldsIf_load_run (by rfl) _ rfl rfl (fun _ hs => int_load hs.2)) (by assumption) ?_
              simp only [Act.put, List.setIfInBounds_toArray, List.set_cons_zero, List.set_cons_succ]
              refine wpAnyH_takeD (i := 29) (some 115) rfl (by kernel_rfl) (by kernel_rfl) (by kernel_rfl) rfl (fun _ _ _ h => h) (Or.inl ⟨by rfl, by rintro w ⟨hs1, hs2⟩; first | rfl | (go_simp; done) | (go_simp; rfl)⟩) (by assumption) ?_
              simp only [Act.put, List.setIfInBounds_toArray, List.set_cons_zero, List.set_cons_succ]
              refine wpAnyH_takeD (i := 30) (some 116) rfl (by kernel_rfl) (by kernel_rfl) (by kernel_rfl) rfl (fun _ _ _ h => h) (Or.inl ⟨by rfl, by rintro w ⟨hs1, hs2⟩; first | rfl | (go_simp; done) | (go_simp; rfl)⟩) (by assumption) ?_
              simp only [Act.put, List.setIfInBounds_toArray, List.set_cons_zero, List.set_cons_succ]
              refine wpAnyH_takeD (i := 31) (v := Value.pointer (some ⟨cb2, co2 + c, none⟩)) (some 117) rfl (by kernel_rfl) (by kernel_rfl) (by kernel_rfl) rfl (fun _ _ _ h => h) (yieldsIf_index_run (by rfl) _ _ rfl rfl rfl (ints_at cb2 co2 _ _ c hc)) (by assumption) ?_
              simp only [Act.put, List.setIfInBounds_toArray, List.set_cons_zero, List.set_cons_succ]
              refine wpAnyH_takeD (i := 32) (v := Value.int .i64 (rc : Int)) (some 118) rfl (by kernel_rfl) (by kernel_rfl) (by kernel_rfl) rfl (fun _ _ _ h => h) (yieldsIf_load_run (by rfl) _ rfl rfl (fun _ hs => int_load hs.2)) (by assumption) ?_
              simp only [Act.put, List.setIfInBounds_toArray, List.set_cons_zero, List.set_cons_succ]
              refine wpAnyH_ready (rs := [33]) (by kernel_rfl) (by simp) ?_
              refine AllReadyH.cons rfl (fun K hK => ?_) AllReadyH.nil
              go_simp
              refine cC.mono ?_
              rintro x wc ⟨rfl, oB3, oA3, T3⟩
              have K3 := K2'.out.trans (T3.keeps HhB.out)
              refine hK.out _ _ (HS1.out _ K3) (fun hHeld => ?_)
              clear hK
              try simp only [Act.put, List.setIfInBounds_toArray, List.set_cons_zero, List.set_cons_succ]
              have W3 := W2'.out.trans (T3.below' HloB.out (Nat.le_trans hWz K2'.out.1))
              clear T3 cC K2' W2'
              have K3' := Lib.hid K3
              have W3' := Lib.hid W3
              have OB3 := Lib.hid oB3
              have OA3 := Lib.hid oA3
              clear K3 W3 oB3 oA3
              refine wpAnyH_takeD (i := 34) (v := Value.bool false) (some 120) rfl (by kernel_rfl) (by kernel_rfl) (by kernel_rfl) rfl (fun _ _ _ h => h) (Or.inl ⟨by rfl, by rintro w ⟨hs1, hs2⟩; first | rfl | (go_simp; done) | (go_simp; rfl)⟩) (by assumption) ?_
              simp only [Act.put, List.setIfInBounds_toArray, List.set_cons_zero, List.set_cons_succ]
              refine wpAnyH_takeD (i := 35) (v := Value.bool false) (some 121) rfl (by kernel_rfl) (by kernel_rfl) (by kernel_rfl) rfl (fun _ _ _ h => h) (Or.inl ⟨by rfl, by rintro w ⟨hs1, hs2⟩; first | rfl | (go_simp; done) | (go_simp; rfl)⟩) (by assumption) ?_
              simp only [Act.put, List.setIfInBounds_toArray, List.set_cons_zero, List.set_cons_succ]
              refine wpAnyH_done (by kernel_rfl) ?_ _
              have hor2 := HOr.out.same' (w' := wc) (fun q hq => K3'.out.2 q (HOr.out.o.lt q hq).1 (HOr.out.o.lt q hq).2)
              obtain ⟨u1, u2, hu1, hu2, ru1, ru2⟩ := parts_any hor2 hc
              obtain ⟨v8, w8, hap, o8, b8, hk8⟩ := Own.pushAll (P := Try.prog) (T := 28) Try.underlying28 q1 q2 q3 q4 rfl (Own.nil wc.drew wc.heap.size 3) (ru1.below (Below.drew_ wc)) (fun x hx => by
                obtain ⟨k, _, rfl⟩ := List.mem_map.1 hx; rfl) (Nat.le_refl _) (by rw [List.length_map, List.length_nil, List.length_take]; omega) (by rw [List.length_map, List.length_nil, List.length_take]; omega)
              rw [List.nil_append] at o8
              have b18 := (Below.drew_ wc).trans b8
              obtain ⟨v9, w9, hap9, o9, b9, hk9⟩ := Own.pushAll (P := Try.prog) (T := 28) Try.underlying28 q1 q2 q3 q4 rfl o8 (ru2.below b18) (fun x hx => by
                obtain ⟨k, _, rfl⟩ := List.mem_map.1 hx; rfl) b18.size (by rw [List.length_map, List.length_map, List.length_take, List.length_drop]; omega) (by rw [List.length_map, List.length_map, List.length_take, List.length_drop]; omega)
              rw [← List.map_append] at o9
              have b19 := b18.trans b9
              have F9 : Hid (Rel3 W w3.heap.size A B l (some ⟨cb, co, none⟩) vc (i + 1) (rs.take c ++ rs.drop (c + 1)) v9 w9) := Lib.hid (rel3_next HR.out hlt hc hli2.out hrc2.out K3'.out OA3.out OB3.out W3'.out b19 o9)
              clear o8 b8 hk8 o9 b9 hk9 b18 b19 ru1 ru2 hor2 K3' W3' OB3 OA3 hHeld
              go_upto_region 28 with (fail)
              refine wp_region_held_drew (S := fun _ => True) (by kernel_rfl) trivial (fun hHeld => ?_)
              refine wpAnyH_takeD (i := 0) (some 122) rfl (by kernel_rfl) (by kernel_rfl) (by kernel_rfl) rfl (fun _ _ _ h => h) (Or.inl ⟨by rfl, by rintro w hs1; first | rfl | (go_simp; done) | (go_simp; rfl)⟩) (by assumption) ?_
              simp only [Act.put, List.setIfInBounds_toArray, List.set_cons_zero, List.set_cons_succ]
              refine wpAnyH_takeD (i := 1) (some 123) rfl (by kernel_rfl) (by kernel_rfl) (by kernel_rfl) rfl (fun _ _ _ h => h) (Or.inl ⟨by rfl, by rintro w hs1; first | rfl | (go_simp; done) | (go_simp; rfl)⟩) (by assumption) ?_
              simp only [Act.put, List.setIfInBounds_toArray, List.set_cons_zero, List.set_cons_succ]
              refine wpAnyH_takeD (i := 2) (v := u1) (some 124) rfl (by kernel_rfl) (by kernel_rfl) (by kernel_rfl) rfl (fun _ _ _ h => h) (yieldsIf_hi_run (by rfl) _ _ rfl rfl rfl (fun W => hu1 W)) (by assumption) ?_
              simp only [Act.put, List.setIfInBounds_toArray, List.set_cons_zero, List.set_cons_succ]
              refine wpAnyH_takeD (i := 4) (some 126) rfl (by kernel_rfl) (by kernel_rfl) (by kernel_rfl) rfl (fun _ _ _ h => h) (Or.inl ⟨by rfl, by rintro w hs1; first | rfl | (go_simp; done) | (go_simp; rfl)⟩) (by assumption) ?_
              simp only [Act.put, List.setIfInBounds_toArray, List.set_cons_zero, List.set_cons_succ]
              refine wpAnyH_takeD (i := 5) (some 127) rfl (by kernel_rfl) (by kernel_rfl) (by kernel_rfl) rfl (fun _ _ _ h => h) (Or.inl ⟨by rfl, by rintro w hs1; first | rfl | (go_simp; done) | (go_simp; rfl)⟩) (by assumption) ?_
              simp only [Act.put, List.setIfInBounds_toArray, List.set_cons_zero, List.set_cons_succ]
              refine wpAnyH_takeD (i := 6) (v := Value.int .i64 ((c : Int) + 1)) (some 128) rfl (by kernel_rfl) (by kernel_rfl) (by kernel_rfl) rfl (fun _ _ _ h => h) (yieldsIf_bin_run (by rfl) _ _ rfl rfl rfl (fun W => by rfl) (fun W => hsum W)) (by assumption) ?_
              simp only [Act.put, List.setIfInBounds_toArray, List.set_cons_zero, List.set_cons_succ]
              refine wpAnyH_takeD (i := 7) (v := u2) (some 129) rfl (by kernel_rfl) (by kernel_rfl) (by kernel_rfl) rfl (fun _ _ _ h => h) (yieldsIf_lo_run (by rfl) _ _ rfl rfl rfl (fun W => hu2 W)) (by assumption) ?_
              simp only [Act.put, List.setIfInBounds_toArray, List.set_cons_zero, List.set_cons_succ]
              refine wpAnyH_ready (rs := [3]) (by kernel_rfl) (by simp) ?_
              refine AllReadyH.cons rfl (fun K hK => ?_) AllReadyH.nil
              refine step_append_run (d := some 125) hap _ _ rfl rfl rfl rfl rfl rfl ?_
              refine hK.out _ _ trivial (fun hHeld => ?_)
              clear hK hap
              try simp only [Act.put, List.setIfInBounds_toArray, List.set_cons_zero, List.set_cons_succ]
              refine wpAnyH_ready (rs := [8]) (by kernel_rfl) (by simp) ?_
              refine AllReadyH.cons rfl (fun K hK => ?_) AllReadyH.nil
              refine step_append_run (d := some 130) hap9 _ _ rfl rfl rfl rfl rfl rfl ?_
              refine hK.out _ _ trivial (fun hHeld => ?_)
              clear hK hap9
              try simp only [Act.put, List.setIfInBounds_toArray, List.set_cons_zero, List.set_cons_succ]
              refine wpAnyH_takeD (i := 9) (some 14) rfl (by kernel_rfl) (by kernel_rfl) (by kernel_rfl) rfl (fun _ _ _ h => h) (Or.inl ⟨by rfl, by rintro w hs1; first | rfl | (go_simp; done) | (go_simp; rfl)⟩) (by assumption) ?_
              simp only [Act.put, List.setIfInBounds_toArray, List.set_cons_zero, List.set_cons_succ]
              refine wpAnyH_done (by kernel_rfl) ?_ _
              go_wp2_with (fail)
              go_roundw
              case rel => exact ⟨i + 1, _, by go_num, F9.out⟩
              case measure => simp [intOf]; omega
          · obtain rfl : i = l.length := by omega
            have z3 : ¬ ((l.length : Int) < (l.length : Int)) := by omega
            obtain rfl : rs = [] := List.eq_nil_of_length_eq_zero (by omega)
            have oA := (hR.oa.below (Below.drew_ wz))
            have oB := (hR.ob.below (Below.drew_ wz))
            rw [List.drop_length] at oA
            obtain ⟨nu, hnu, hused⟩ := two_used oA oB
            have crA := one_right oA
            have HoA := Lib.hid oA
            have HoB := Lib.hid oB
            have HW := Lib.hid hR.w
            have HU := Lib.hid hused
            have HSz := Lib.hid hR.ws
            clear hR oA oB hused
            go_upto_region 29 with (fail)
            refine wp_region_held_drew (S := fun W => W.cell? ⟨A.bk, 0, none⟩ = some (.pointer (some ⟨A.g, 0, none⟩)) ∧ W.cell? ⟨B.bk, 0, none⟩ = some (.pointer (some ⟨B.g, 0, none⟩))) (by kernel_rfl) ⟨one_cell HoA.out, one_cell HoB.out⟩ (fun hHeld => ?_)
            refine wpAnyH_takeD (i := 0) (some 131) rfl (by kernel_rfl) (by kernel_rfl) (by kernel_rfl) rfl (fun _ _ _ h => h) (Or.inl ⟨by rfl, by rintro w ⟨hs1, hs2⟩; first | rfl | (go_simp; done) | (go_simp; rfl)⟩) (by assumption) ?_
            simp only [Act.put, List.setIfInBounds_toArray, List.set_cons_zero, List.set_cons_succ]
            refine wpAnyH_ready (rs := [1]) (by kernel_rfl) (by simp) ?_
            refine AllReadyH.cons rfl (fun K hK => ?_) AllReadyH.nil
            go_simp
            refine crA.mono ?_
            rintro x wa ⟨rfl, ba⟩
            have oA1 := HoA.out.below ba
            have oB1 := HoB.out.below ba
            have crB := one_right oB1
            refine hK.out _ _ ⟨one_cell oA1, one_cell oB1⟩ (fun hHeld => ?_)
            clear hK
            try simp only [Act.put, List.setIfInBounds_toArray, List.set_cons_zero, List.set_cons_succ]
            have Ba := Lib.hid ba
            have OB1 := Lib.hid oB1
            have OA1 := Lib.hid oA1
            clear ba oA1 oB1 crA
            refine wpAnyH_takeD (i := 2) (v := Value.bool true) (some 133) rfl (by kernel_rfl) (by kernel_rfl) (by kernel_rfl) rfl (fun _ _ _ h => h) (Or.inl ⟨by rfl, by rintro w ⟨hs1, hs2⟩; first | rfl | (go_simp; done) | (go_simp; rfl)⟩) (by assumption) ?_
            simp only [Act.put, List.setIfInBounds_toArray, List.set_cons_zero, List.set_cons_succ]
            refine wpAnyH_takeD (i := 3) (some 134) rfl (by kernel_rfl) (by kernel_rfl) (by kernel_rfl) rfl (fun _ _ _ h => h) (Or.inl ⟨by rfl, by rintro w ⟨hs1, hs2⟩; first | rfl | (go_simp; done) | (go_simp; rfl)⟩) (by assumption) ?_
            simp only [Act.put, List.setIfInBounds_toArray, List.set_cons_zero, List.set_cons_succ]
            refine wpAnyH_ready (rs := [4]) (by kernel_rfl) (by simp) ?_
            refine AllReadyH.cons rfl (fun K hK => ?_) AllReadyH.nil
            go_simp
            refine crB.mono ?_
            rintro x wb ⟨rfl, bb⟩
            have oA1 := OA1.out.below bb
            have oB1 := OB1.out.below bb
            have bab := Ba.out.trans (bb.mono Ba.out.size)
            have cuu := HU.out wb bab
            refine hK.out _ _ ⟨one_cell oA1, one_cell oB1⟩ (fun hHeld => ?_)
            clear hK
            try simp only [Act.put, List.setIfInBounds_toArray, List.set_cons_zero, List.set_cons_succ]
            have HFin := Lib.hid (HW.out.trans (((Below.drew_ wz).trans bab).mono HSz.out))
            have cua := cuu.1
            have cub := cuu.2
            clear bb oA1 oB1 bab cuu crB Ba OB1 OA1
            refine wpAnyH_takeD (i := 5) (v := Value.bool true) (some 136) rfl (by kernel_rfl) (by kernel_rfl) (by kernel_rfl) rfl (fun _ _ _ h => h) (Or.inl ⟨by rfl, by rintro w ⟨hs1, hs2⟩; first | rfl | (go_simp; done) | (go_simp; rfl)⟩) (by assumption) ?_
            simp only [Act.put, List.setIfInBounds_toArray, List.set_cons_zero, List.set_cons_succ]
            refine wpAnyH_takeD (i := 6) (v := Value.bool true) (some 137) rfl (by kernel_rfl) (by kernel_rfl) (by kernel_rfl) rfl (fun _ _ _ h => h) (Or.inl ⟨by rfl, by rintro w ⟨hs1, hs2⟩; first | rfl | (go_simp; done) | (go_simp; rfl)⟩) (by assumption) ?_
            simp only [Act.put, List.setIfInBounds_toArray, List.set_cons_zero, List.set_cons_succ]
            refine wpAnyH_takeD (i := 7) (some 138) rfl (by kernel_rfl) (by kernel_rfl) (by kernel_rfl) rfl (fun _ _ _ h => h) (Or.inl ⟨by rfl, by rintro w ⟨hs1, hs2⟩; first | rfl | (go_simp; done) | (go_simp; rfl)⟩) (by assumption) ?_
            simp only [Act.put, List.setIfInBounds_toArray, List.set_cons_zero, List.set_cons_succ]
            refine wpAnyH_takeD (i := 8) (v := Value.pointer (some ⟨A.bk, 0, none⟩)) (some 139) rfl (by kernel_rfl) (by kernel_rfl) (by kernel_rfl) rfl (fun _ _ _ h => h) (Or.inl ⟨by rfl, by rintro w ⟨hs1, hs2⟩; first | rfl | (go_simp; done) | (go_simp; rfl)⟩) (by assumption) ?_
            simp only [Act.put, List.setIfInBounds_toArray, List.set_cons_zero, List.set_cons_succ]
            refine wpAnyH_takeD (i := 9) (v := Value.pointer (some ⟨A.bk, 0, none⟩)) (some 140) rfl (by kernel_rfl) (by kernel_rfl) (by kernel_rfl) rfl (fun _ _ _ h => h) (Or.inl ⟨by rfl, by rintro w ⟨hs1, hs2⟩; first | rfl | (go_simp; done) | (go_simp; rfl)⟩) (by assumption) ?_
            simp only [Act.put, List.setIfInBounds_toArray, List.set_cons_zero, List.set_cons_succ]
            refine wpAnyH_takeD (i := 10) (v := Value.pointer (some ⟨A.g, 0, none⟩)) (some 141) rfl (by kernel_rfl) (by kernel_rfl) (by kernel_rfl) rfl (fun _ _ _ h => h) (yieldsIf_load_run (by rfl) _ rfl rfl (fun _ hs => tab_load hs.1)) (by assumption) ?_
            simp only [Act.put, List.setIfInBounds_toArray, List.set_cons_zero, List.set_cons_succ]
            refine wpAnyH_takeD (i := 12) (some 143) rfl (by kernel_rfl) (by kernel_rfl) (by kernel_rfl) rfl (fun _ _ _ h => h) (Or.inl ⟨by rfl, by rintro w ⟨hs1, hs2⟩; first | rfl | (go_simp; done) | (go_simp; rfl)⟩) (by assumption) ?_
            simp only [Act.put, List.setIfInBounds_toArray, List.set_cons_zero, List.set_cons_succ]
            refine wpAnyH_takeD (i := 13) (v := Value.pointer (some ⟨B.bk, 0, none⟩)) (some 144) rfl (by kernel_rfl) (by kernel_rfl) (by kernel_rfl) rfl (fun _ _ _ h => h) (Or.inl ⟨by rfl, by rintro w ⟨hs1, hs2⟩; first | rfl | (go_simp; done) | (go_simp; rfl)⟩) (by assumption) ?_
            simp only [Act.put, List.setIfInBounds_toArray, List.set_cons_zero, List.set_cons_succ]
            refine wpAnyH_takeD (i := 14) (v := Value.pointer (some ⟨B.bk, 0, none⟩)) (some 145) rfl (by kernel_rfl) (by kernel_rfl) (by kernel_rfl) rfl (fun _ _ _ h => h) (Or.inl ⟨by rfl, by rintro w ⟨hs1, hs2⟩; first | rfl | (go_simp; done) | (go_simp; rfl)⟩) (by assumption) ?_
            simp only [Act.put, List.setIfInBounds_toArray, List.set_cons_zero, List.set_cons_succ]
            refine wpAnyH_takeD (i := 15) (v := Value.pointer (some ⟨B.g, 0, none⟩)) (some 146) rfl (by kernel_rfl) (by kernel_rfl) (by kernel_rfl) rfl (fun _ _ _ h => h) (yieldsIf_load_run (by rfl) _ rfl rfl (fun _ hs => tab_load hs.2)) (by assumption) ?_
            simp only [Act.put, List.setIfInBounds_toArray, List.set_cons_zero, List.set_cons_succ]
            refine wpAnyH_ready (rs := [11]) (by kernel_rfl) (by simp) ?_
            refine AllReadyH.cons rfl (fun K hK => ?_) AllReadyH.nil
            go_simp
            refine cua.mono ?_
            rintro x wz2 ⟨rfl, rfl⟩
            refine hK.out _ _ hHeld (fun hHeld => ?_)
            clear hK
            try simp only [Act.put, List.setIfInBounds_toArray, List.set_cons_zero, List.set_cons_succ]
            refine wpAnyH_ready (rs := [16]) (by kernel_rfl) (by simp) ?_
            refine AllReadyH.cons rfl (fun K hK => ?_) AllReadyH.nil
            go_simp
            refine cub.mono ?_
            rintro x wz3 ⟨rfl, rfl⟩
            refine hK.out _ _ hHeld (fun hHeld => ?_)
            clear hK
            try simp only [Act.put, List.setIfInBounds_toArray, List.set_cons_zero, List.set_cons_succ]
            refine wpAnyH_takeD (i := 17) (v := Value.bool true) (some 148) rfl (by kernel_rfl) (by kernel_rfl) (by kernel_rfl) rfl (fun _ _ _ h => h) (yieldsIf_bin_run (by rfl) _ _ rfl rfl rfl (fun W => by rfl) (fun W => eql_same nu W)) (by assumption) ?_
            simp only [Act.put, List.setIfInBounds_toArray, List.set_cons_zero, List.set_cons_succ]
            refine wpAnyH_takeD (i := 18) (v := Value.bool true) (some 149) rfl (by kernel_rfl) (by kernel_rfl) (by kernel_rfl) rfl (fun _ _ _ h => h) (Or.inl ⟨by rfl, by rintro w ⟨hs1, hs2⟩; first | rfl | (go_simp; done) | (go_simp; rfl)⟩) (by assumption) ?_
            simp only [Act.put, List.setIfInBounds_toArray, List.set_cons_zero, List.set_cons_succ]
            refine wpAnyH_takeD (i := 19) (v := Value.bool true) (some 4) rfl (by kernel_rfl) (by kernel_rfl) (by kernel_rfl) rfl (fun _ _ _ h => h) (Or.inl ⟨by rfl, by rintro w ⟨hs1, hs2⟩; first | rfl | (go_simp; done) | (go_simp; rfl)⟩) (by assumption) ?_
            simp only [Act.put, List.setIfInBounds_toArray, List.set_cons_zero, List.set_cons_succ]
            refine wpAnyH_done (by kernel_rfl) ?_ _
            go_wp2_with (fail)
            go_ret
            exact ⟨rfl, HFin.out⟩
      · have y1 : ¬ ((i : Int) < (l0.length : Int)) := by omega
        have hlt1' := hlt1

        go_wp2_with (at_builtin; refine wpList_append_run hap _ _ rfl rfl rfl rfl rfl ?_)
        clear hap
        go_loopw [4, 14, 15, 16] (fun _ v t _ wz => ∃ (i : Nat) (rs : List Nat), t = .int .i64 (i : Int) ∧ Rel3 W w3.heap.size A B l va vc i rs v wz) (fun _ _ t _ _ => l.length - (intOf t).toNat)
        case atStart => exact ⟨0, l, rfl, HST.out⟩
        case round =>
          clear HST
          obtain ⟨i, rs, rfl, hR⟩ := hrel
          rename World => wz
          have hi := hR.il
          have hrl := hR.len
          have hS := hR.s
          have hl12 := hR.l12
          have hlk := hR.lk
          have hWz := hR.ws
          by_cases hlt : i < l.length
          · have y3 : (i : Int) < (l.length : Int) := by omega
            obtain ⟨ra, rk, hv, hrit⟩ := hR.items
            subst hv
            obtain ⟨cb, co, rfl, hcl⟩ := hR.item hlt
            have hkl := hlk _ (List.getElem_mem hlt)
            have HW := Lib.hid hR.w
            have HhA := Lib.hid hR.ah
            have HhB := Lib.hid hR.bh
            have HloA := Lib.hid hR.al
            have HloB := Lib.hid hR.bl
            have HOr := Lib.hid hR.o
            have HR := Lib.hid hR
            clear hR hlt1'
            by_cases ho1 : i < l1.length
            · have yo : (i : Int) < (l1.length : Int) := by omega
              obtain ⟨kb1, ko1, rfl, hk1⟩ := HI1.out i ho1
              have ck1 := hk1 wz HW.out
              have hin := HF1.out l1[i] (List.getElem_mem ho1)
              have hrs1 : (1 : Int) ≤ (rs.length : Int) := by omega
              have cp := pick17_any l1[i] (rs.length : Int) wz hin.1 hin.2 hrs1 (by omega)
              have hpk := pk_rng l1[i] (rs.length : Int) hrs1
              generalize l1[i] = raw at *
              generalize pk raw (rs.length : Int) = pc at *
              obtain ⟨c, rfl⟩ : ∃ c : Nat, pc = (c : Int) := ⟨pc.toNat, by omega⟩
              have hc : c < rs.length := by omega
              clear hpk hin hk1
              go_wp2_with (fail)
              refine cp.mono ?_
              rintro e w5 ⟨rfl, rfl⟩
              clear cp ck1 hrs1
              obtain ⟨cb2, co2, rfl, hcl2⟩ := hrit.out c hc
              have HS1 : Hid (∀ W' : World, Keeps w3.heap.size wz W' → W'.cell? ⟨cb, co + i, none⟩ = some (.int .i64 ((l[i] : Nat) : Int)) ∧ W'.cell? ⟨cb2, co2 + c, none⟩ = some (.int .i64 ((rs[c] : Nat) : Int))) := Lib.hid fun (W' : World) h => ⟨hcl.out W' h, hcl2 W' h⟩
              clear hcl2
              have hrl2 := HR.out.sub rs[c] (List.getElem_mem hc)
              have hrc4 := hlk rs[c] hrl2
              have hsum : ∀ W : World, (binOp .add 3 (.int .i64 (c : Int)) (.int .i64 1)).run Try.prog W = .ok (.int .i64 ((c : Int) + 1)) W := sum_one c (by omega)
              have cA := one_set (HR.out.oa.below (Below.drew_ wz)) (HR.out.ob.below (Below.drew_ wz)) (fun q hq => turned_ge HhB.out (Nat.le_trans hS hq)) l[i] hkl ((l[i] : Nat) : Int) (by omega) (by omega) l (fun k hk h => keyF_mem h) (by omega)
              obtain ⟨li, hle⟩ : ∃ li : Nat, l[i] = li := ⟨_, rfl⟩
              obtain ⟨rc, hre⟩ : ∃ rc : Nat, rs[c] = rc := ⟨_, rfl⟩
              rw [hle, hre] at HS1
              rw [hle] at cA hkl
              rw [hre] at hrl2 hrc4
              have hli2 := Lib.hid hle
              have hrc2 := Lib.hid hre
              clear hle hre
              go_upto_region 26 with (fail)
              refine wp_region_held_drew (S := fun W => W.cell? ⟨cb, co + i, none⟩ = some (.int .i64 (li : Int)) ∧ W.cell? ⟨cb2, co2 + c, none⟩ = some (.int .i64 (rc : Int))) (by kernel_rfl) (HS1.out _ (Keeps.drew _ _)) (fun hHeld => ?_)
              refine wpAnyH_takeD (i := 0) (some 86) rfl (by kernel_rfl) (by kernel_rfl) (by kernel_rfl) rfl (fun _ _ _ h => h) (Or.inl ⟨by rfl, by rintro w ⟨hs1, hs2⟩; first | rfl | (go_simp; done) | (go_simp; rfl)⟩) (by assumption) ?_
              simp only [Act.put, List.setIfInBounds_toArray, List.set_cons_zero, List.set_cons_succ]
              refine wpAnyH_takeD (i := 1) (some 87) rfl (by kernel_rfl) (by kernel_rfl) (by kernel_rfl) rfl (fun _ _ _ h => h) (Or.inl ⟨by rfl, by rintro w ⟨hs1, hs2⟩; first | rfl | (go_simp; done) | (go_simp; rfl)⟩) (by assumption) ?_
              simp only [Act.put, List.setIfInBounds_toArray, List.set_cons_zero, List.set_cons_succ]
              refine wpAnyH_takeD (i := 2) (some 88) rfl (by kernel_rfl) (by kernel_rfl) (by kernel_rfl) rfl (fun _ _ _ h => h) (Or.inl ⟨by rfl, by rintro w ⟨hs1, hs2⟩; first | rfl | (go_simp; done) | (go_simp; rfl)⟩) (by assumption) ?_
              simp only [Act.put, List.setIfInBounds_toArray, List.set_cons_zero, List.set_cons_succ]
              refine wpAnyH_takeD (i := 3) (some 89) rfl (by kernel_rfl) (by kernel_rfl) (by kernel_rfl) rfl (fun _ _ _ h => h) (Or.inl ⟨by rfl, by rintro w ⟨hs1, hs2⟩; first | rfl | (go_simp; done) | (go_simp; rfl)⟩) (by assumption) ?_
              simp only [Act.put, List.setIfInBounds_toArray, List.set_cons_zero, List.set_cons_succ]
              refine wpAnyH_takeD (i := 4) (v := Value.pointer (some ⟨cb, co + i, none⟩)) (some 90) rfl (by kernel_rfl) (by kernel_rfl) (by kernel_rfl) rfl (fun _ _ _ h => h) (yieldsIf_index_run (by rfl) _ _ rfl rfl rfl (ints_at cb co _ _ i hlt)) (by assumption) ?_
              simp only [Act.put, List.setIfInBounds_toArray, List.set_cons_zero, List.set_cons_succ]
              refine wpAnyH_takeD (i := 5) (v := Value.int .i64 (li : Int)) (some 91) rfl (by kernel_rfl) (by kernel_rfl) (by kernel_rfl) rfl (fun _ _ _ h => h) (yieldsIf_load_run (by rfl) _ rfl rfl (fun _ hs => int_load hs.1)) (by assumption) ?_
              simp only [Act.put, List.setIfInBounds_toArray, List.set_cons_zero, List.set_cons_succ]
              refine wpAnyH_takeD (i := 6) (some 92) rfl (by kernel_rfl) (by kernel_rfl) (by kernel_rfl) rfl (fun _ _ _ h => h) (Or.inl ⟨by rfl, by rintro w ⟨hs1, hs2⟩; first | rfl | (go_simp; done) | (go_simp; rfl)⟩) (by assumption) ?_
              simp only [Act.put, List.setIfInBounds_toArray, List.set_cons_zero, List.set_cons_succ]
              refine wpAnyH_takeD (i := 7) (some 93) rfl (by kernel_rfl) (by kernel_rfl) (by kernel_rfl) rfl (fun _ _ _ h => h) (Or.inl ⟨by rfl, by rintro w ⟨hs1, hs2⟩; first | rfl | (go_simp; done) | (go_simp; rfl)⟩) (by assumption) ?_
              simp only [Act.put, List.setIfInBounds_toArray, List.set_cons_zero, List.set_cons_succ]
              refine wpAnyH_takeD (i := 8) (v := Value.pointer (some ⟨cb, co + i, none⟩)) (some 94) rfl (by kernel_rfl) (by kernel_rfl) (by kernel_rfl) rfl (fun _ _ _ h => h) (yieldsIf_index_run (by rfl) _ _ rfl rfl rfl (ints_at cb co _ _ i hlt)) (by assumption) ?_
              simp only [Act.put, List.setIfInBounds_toArray, List.set_cons_zero, List.set_cons_succ]
              refine wpAnyH_takeD (i := 9) (v := Value.int .i64 (li : Int)) (some 95) rfl (by kernel_rfl) (by kernel_rfl) (by kernel_rfl) rfl (fun _ _ _ h => h) (yieldsIf_load_run (by rfl) _ rfl rfl (fun _ hs => int_load hs.1)) (by assumption) ?_
              simp only [Act.put, List.setIfInBounds_toArray, List.set_cons_zero, List.set_cons_succ]
              refine wpAnyH_ready (rs := [10]) (by kernel_rfl) (by simp) ?_
              refine AllReadyH.cons rfl (fun K hK => ?_) AllReadyH.nil
              go_simp
              refine cA.mono ?_
              rintro x wa ⟨rfl, oA1, oB1, T1⟩
              have K1 := (Keeps.drew w3.heap.size wz).trans (T1.keeps HhA.out)
              refine hK.out _ _ (HS1.out _ K1) (fun hHeld => ?_)
              clear hK
              try simp only [Act.put, List.setIfInBounds_toArray, List.set_cons_zero, List.set_cons_succ]
              have cB := one_set oB1 oA1 (fun q hq => turned_ge HhA.out (Nat.le_trans (Nat.le_trans hS K1.1) hq)) rc hrc4 9999 (by decide) (by decide) l (fun k hk h => keyF_mem h) (by omega)
              have W1 := (HW.out.trans ((Below.drew_ wz).mono hWz)).trans (T1.below' HloA.out hWz)
              clear oB1 oA1 T1 cA
              have K1' := Lib.hid K1
              have W1' := Lib.hid W1
              clear K1 W1
              refine wpAnyH_takeD (i := 11) (v := Value.bool false) (some 97) rfl (by kernel_rfl) (by kernel_rfl) (by kernel_rfl) rfl (fun _ _ _ h => h) (Or.inl ⟨by rfl, by rintro w ⟨hs1, hs2⟩; first | rfl | (go_simp; done) | (go_simp; rfl)⟩) (by assumption) ?_
              simp only [Act.put, List.setIfInBounds_toArray, List.set_cons_zero, List.set_cons_succ]
              refine wpAnyH_takeD (i := 12) (v := Value.bool false) (some 98) rfl (by kernel_rfl) (by kernel_rfl) (by kernel_rfl) rfl (fun _ _ _ h => h) (Or.inl ⟨by rfl, by rintro w ⟨hs1, hs2⟩; first | rfl | (go_simp; done) | (go_simp; rfl)⟩) (by assumption) ?_
              simp only [Act.put, List.setIfInBounds_toArray, List.set_cons_zero, List.set_cons_succ]
              refine wpAnyH_takeD (i := 13) (some 99) rfl (by kernel_rfl) (by kernel_rfl) (by kernel_rfl) rfl (fun _ _ _ h => h) (Or.inl ⟨by rfl, by rintro w ⟨hs1, hs2⟩; first | rfl | (go_simp; done) | (go_simp; rfl)⟩) (by assumption) ?_
              simp only [Act.put, List.setIfInBounds_toArray, List.set_cons_zero, List.set_cons_succ]
              refine wpAnyH_takeD (i := 14) (some 100) rfl (by kernel_rfl) (by kernel_rfl) (by kernel_rfl) rfl (fun _ _ _ h => h) (Or.inl ⟨by rfl, by rintro w ⟨hs1, hs2⟩; first | rfl | (go_simp; done) | (go_simp; rfl)⟩) (by assumption) ?_
              simp only [Act.put, List.setIfInBounds_toArray, List.set_cons_zero, List.set_cons_succ]
              refine wpAnyH_takeD (i := 15) (some 101) rfl (by kernel_rfl) (by kernel_rfl) (by kernel_rfl) rfl (fun _ _ _ h => h) (Or.inl ⟨by rfl, by rintro w ⟨hs1, hs2⟩; first | rfl | (go_simp; done) | (go_simp; rfl)⟩) (by assumption) ?_
              simp only [Act.put, List.setIfInBounds_toArray, List.set_cons_zero, List.set_cons_succ]
              refine wpAnyH_takeD (i := 16) (some 102) rfl (by kernel_rfl) (by kernel_rfl) (by kernel_rfl) rfl (fun _ _ _ h => h) (Or.inl ⟨by rfl, by rintro w ⟨hs1, hs2⟩; first | rfl | (go_simp; done) | (go_simp; rfl)⟩) (by assumption) ?_
              simp only [Act.put, List.setIfInBounds_toArray, List.set_cons_zero, List.set_cons_succ]
              refine wpAnyH_takeD (i := 17) (v := Value.pointer (some ⟨cb2, co2 + c, none⟩)) (some 103) rfl (by kernel_rfl) (by kernel_rfl) (by kernel_rfl) rfl (fun _ _ _ h => h) (yieldsIf_index_run (by rfl) _ _ rfl rfl rfl (ints_at cb2 co2 _ _ c hc)) (by assumption) ?_
              simp only [Act.put, List.setIfInBounds_toArray, List.set_cons_zero, List.set_cons_succ]
              refine wpAnyH_takeD (i := 18) (v := Value.int .i64 (rc : Int)) (some 104) rfl (by kernel_rfl) (by kernel_rfl) (by kernel_rfl) rfl (fun _ _ _ h => h) (yieldsIf_load_run (by rfl) _ rfl rfl (fun _ hs => int_load hs.2)) (by assumption) ?_
              simp only [Act.put, List.setIfInBounds_toArray, List.set_cons_zero, List.set_cons_succ]
              refine wpAnyH_ready (rs := [19]) (by kernel_rfl) (by simp) ?_
              refine AllReadyH.cons rfl (fun K hK => ?_) AllReadyH.nil
              go_simp
              refine cB.mono ?_
              rintro x wb ⟨rfl, oB2, oA2, T2⟩
              have K2 := K1'.out.trans (T2.keeps HhB.out)
              refine hK.out _ _ (HS1.out _ K2) (fun hHeld => ?_)
              clear hK
              try simp only [Act.put, List.setIfInBounds_toArray, List.set_cons_zero, List.set_cons_succ]
              have cC := one_set oB2 oA2 (fun q hq => turned_ge HhA.out (Nat.le_trans (Nat.le_trans hS K2.1) hq)) rc hrc4 (rc : Int) (by omega) (by omega) l (fun k hk h => by
                by_cases e : k = rc
                · rw [e]; exact hrl2
                · rw [if_neg e] at h; exact keyF_mem h) (by omega)
              have W2 := W1'.out.trans (T2.below' HloB.out (Nat.le_trans hWz K1'.out.1))
              clear oB2 oA2 T2 cB K1' W1'
              have K2' := Lib.hid K2
              have W2' := Lib.hid W2
              clear K2 W2
              refine wpAnyH_takeD (i := 20) (v := Value.bool false) (some 106) rfl (by kernel_rfl) (by kernel_rfl) (by kernel_rfl) rfl (fun _ _ _ h => h) (Or.inl ⟨by rfl, by rintro w ⟨hs1, hs2⟩; first | rfl | (go_simp; done) | (go_simp; rfl)⟩) (by assumption) ?_
              simp only [Act.put, List.setIfInBounds_toArray, List.set_cons_zero, List.set_cons_succ]
              refine wpAnyH_takeD (i := 21) (v := Value.bool false) (some 107) rfl (by kernel_rfl) (by kernel_rfl) (by kernel_rfl) rfl (fun _ _ _ h => h) (Or.inl ⟨by rfl, by rintro w ⟨hs1, hs2⟩; first | rfl | (go_simp; done) | (go_simp; rfl)⟩) (by assumption) ?_
              simp only [Act.put, List.setIfInBounds_toArray, List.set_cons_zero, List.set_cons_succ]
              refine wpAnyH_takeD (i := 22) (v := Value.bool false) (some 108) rfl (by kernel_rfl) (by kernel_rfl) (by kernel_rfl) rfl (fun _ _ _ h => h) (Or.inl ⟨by rfl, by rintro w ⟨hs1, hs2⟩; first | rfl | (go_simp; done) | (go_simp; rfl)⟩) (by assumption) ?_
              simp only [Act.put, List.setIfInBounds_toArray, List.set_cons_zero, List.set_cons_succ]
              refine wpAnyH_takeD (i := 23) (some 109) rfl (by kernel_rfl) (by kernel_rfl) (by kernel_rfl) rfl (fun _ _ _ h => h) (Or.inl ⟨by rfl, by rintro w ⟨hs1, hs2⟩; first | rfl | (go_simp; done) | (go_simp; rfl)⟩) (by assumption) ?_
              simp only [Act.put, List.setIfInBounds_toArray, List.set_cons_zero, List.set_cons_succ]
              refine wpAnyH_takeD (i := 24) (some 110) rfl (by kernel_rfl) (by kernel_rfl) (by kernel_rfl) rfl (fun _ _ _ h => h) (Or.inl ⟨by rfl, by rintro w ⟨hs1, hs2⟩; first | rfl | (go_simp; done) | (go_simp; rfl)⟩) (by assumption) ?_
              simp only [Act.put, List.setIfInBounds_toArray, List.set_cons_zero, List.set_cons_succ]
              refine wpAnyH_takeD (i := 25) (some 111) rfl (by kernel_rfl) (by kernel_rfl) (by kernel_rfl) rfl (fun _ _ _ h => h) (Or.inl ⟨by rfl, by rintro w ⟨hs1, hs2⟩; first | rfl | (go_simp; done) | (go_simp; rfl)⟩) (by assumption) ?_
              simp only [Act.put, List.setIfInBounds_toArray, List.set_cons_zero, List.set_cons_succ]
              refine wpAnyH_takeD (i := 26) (some 112) rfl (by kernel_rfl) (by kernel_rfl) (by kernel_rfl) rfl (fun _ _ _ h => h) (Or.inl ⟨by rfl, by rintro w ⟨hs1, hs2⟩; first | rfl | (go_simp; done) | (go_simp; rfl)⟩) (by assumption) ?_
              simp only [Act.put, List.setIfInBounds_toArray, List.set_cons_zero, List.set_cons_succ]
              refine wpAnyH_takeD (i := 27) (v := Value.pointer (some ⟨cb2, co2 + c, none⟩)) (some 113) rfl (by kernel_rfl) (by kernel_rfl) (by kernel_rfl) rfl (fun _ _ _ h => h) (yieldsIf_index_run (by rfl) _ _ rfl rfl rfl (ints_at cb2 co2 _ _ c hc)) (by assumption) ?_
              simp only [Act.put, List.setIfInBounds_toArray, List.set_cons_zero, List.set_cons_succ]
              refine wpAnyH_takeD (i := 28) (v := Value.int .i64 (rc : Int)) (some 114) rfl (by kernel_rfl) (by kernel_rfl) (by kernel_rfl) rfl (fun _ _ _ h => h) (yieldsIf_load_run (by rfl) _ rfl rfl (fun _ hs => int_load hs.2)) (by assumption) ?_
              simp only [Act.put, List.setIfInBounds_toArray, List.set_cons_zero, List.set_cons_succ]
              refine wpAnyH_takeD (i := 29) (some 115) rfl (by kernel_rfl) (by kernel_rfl) (by kernel_rfl) rfl (fun _ _ _ h => h) (Or.inl ⟨by rfl, by rintro w ⟨hs1, hs2⟩; first | rfl | (go_simp; done) | (go_simp; rfl)⟩) (by assumption) ?_
              simp only [Act.put, List.setIfInBounds_toArray, List.set_cons_zero, List.set_cons_succ]
              refine wpAnyH_takeD (i := 30) (some 116) rfl (by kernel_rfl) (by kernel_rfl) (by kernel_rfl) rfl (fun _ _ _ h => h) (Or.inl ⟨by rfl, by rintro w ⟨hs1, hs2⟩; first | rfl | (go_simp; done) | (go_simp; rfl)⟩) (by assumption) ?_
              simp only [Act.put, List.setIfInBounds_toArray, List.set_cons_zero, List.set_cons_succ]
              refine wpAnyH_takeD (i := 31) (v := Value.pointer (some ⟨cb2, co2 + c, none⟩)) (some 117) rfl (by kernel_rfl) (by kernel_rfl) (by kernel_rfl) rfl (fun _ _ _ h => h) (yieldsIf_index_run (by rfl) _ _ rfl rfl rfl (ints_at cb2 co2 _ _ c hc)) (by assumption) ?_
              simp only [Act.put, List.setIfInBounds_toArray, List.set_cons_zero, List.set_cons_succ]
              refine wpAnyH_takeD (i := 32) (v := Value.int .i64 (rc : Int)) (some 118) rfl (by kernel_rfl) (by kernel_rfl) (by kernel_rfl) rfl (fun _ _ _ h => h) (yieldsIf_load_run (by rfl) _ rfl rfl (fun _ hs => int_load hs.2)) (by assumption) ?_
              simp only [Act.put, List.setIfInBounds_toArray, List.set_cons_zero, List.set_cons_succ]
              refine wpAnyH_ready (rs := [33]) (by kernel_rfl) (by simp) ?_
              refine AllReadyH.cons rfl (fun K hK => ?_) AllReadyH.nil
              go_simp
              refine cC.mono ?_
              rintro x wc ⟨rfl, oB3, oA3, T3⟩
              have K3 := K2'.out.trans (T3.keeps HhB.out)
              refine hK.out _ _ (HS1.out _ K3) (fun hHeld => ?_)
              clear hK
              try simp only [Act.put, List.setIfInBounds_toArray, List.set_cons_zero, List.set_cons_succ]
              have W3 := W2'.out.trans (T3.below' HloB.out (Nat.le_trans hWz K2'.out.1))
              clear T3 cC K2' W2'
              have K3' := Lib.hid K3
              have W3' := Lib.hid W3
              have OB3 := Lib.hid oB3
              have OA3 := Lib.hid oA3
              clear K3 W3 oB3 oA3
              refine wpAnyH_takeD (i := 34) (v := Value.bool false) (some 120) rfl (by kernel_rfl) (by kernel_rfl) (by kernel_rfl) rfl (fun _ _ _ h => h) (Or.inl ⟨by rfl, by rintro w ⟨hs1, hs2⟩; first | rfl | (go_simp; done) | (go_simp; rfl)⟩) (by assumption) ?_
              simp only [Act.put, List.setIfInBounds_toArray, List.set_cons_zero, List.set_cons_succ]
              refine wpAnyH_takeD (i := 35) (v := Value.bool false) (some 121) rfl (by kernel_rfl) (by kernel_rfl) (by kernel_rfl) rfl (fun _ _ _ h => h) (Or.inl ⟨by rfl, by rintro w ⟨hs1, hs2⟩; first | rfl | (go_simp; done) | (go_simp; rfl)⟩) (by assumption) ?_
              simp only [Act.put, List.setIfInBounds_toArray, List.set_cons_zero, List.set_cons_succ]
              refine wpAnyH_done (by kernel_rfl) ?_ _
              have hor2 := HOr.out.same' (w' := wc) (fun q hq => K3'.out.2 q (HOr.out.o.lt q hq).1 (HOr.out.o.lt q hq).2)
              obtain ⟨u1, u2, hu1, hu2, ru1, ru2⟩ := parts_any hor2 hc
              obtain ⟨v8, w8, hap, o8, b8, hk8⟩ := Own.pushAll (P := Try.prog) (T := 28) Try.underlying28 q1 q2 q3 q4 rfl (Own.nil wc.drew wc.heap.size 3) (ru1.below (Below.drew_ wc)) (fun x hx => by
                obtain ⟨k, _, rfl⟩ := List.mem_map.1 hx; rfl) (Nat.le_refl _) (by rw [List.length_map, List.length_nil, List.length_take]; omega) (by rw [List.length_map, List.length_nil, List.length_take]; omega)
              rw [List.nil_append] at o8
              have b18 := (Below.drew_ wc).trans b8
              obtain ⟨v9, w9, hap9, o9, b9, hk9⟩ := Own.pushAll (P := Try.prog) (T := 28) Try.underlying28 q1 q2 q3 q4 rfl o8 (ru2.below b18) (fun x hx => by
                obtain ⟨k, _, rfl⟩ := List.mem_map.1 hx; rfl) b18.size (by rw [List.length_map, List.length_map, List.length_take, List.length_drop]; omega) (by rw [List.length_map, List.length_map, List.length_take, List.length_drop]; omega)
              rw [← List.map_append] at o9
              have b19 := b18.trans b9
              have F9 : Hid (Rel3 W w3.heap.size A B l (some ⟨cb, co, none⟩) vc (i + 1) (rs.take c ++ rs.drop (c + 1)) v9 w9) := Lib.hid (rel3_next HR.out hlt hc hli2.out hrc2.out K3'.out OA3.out OB3.out W3'.out b19 o9)
              clear o8 b8 hk8 o9 b9 hk9 b18 b19 ru1 ru2 hor2 K3' W3' OB3 OA3 hHeld
              go_upto_region 28 with (fail)
              refine wp_region_held_drew (S := fun _ => True) (by kernel_rfl) trivial (fun hHeld => ?_)
              refine wpAnyH_takeD (i := 0) (some 122) rfl (by kernel_rfl) (by kernel_rfl) (by kernel_rfl) rfl (fun _ _ _ h => h) (Or.inl ⟨by rfl, by rintro w hs1; first | rfl | (go_simp; done) | (go_simp; rfl)⟩) (by assumption) ?_
              simp only [Act.put, List.setIfInBounds_toArray, List.set_cons_zero, List.set_cons_succ]
              refine wpAnyH_takeD (i := 1) (some 123) rfl (by kernel_rfl) (by kernel_rfl) (by kernel_rfl) rfl (fun _ _ _ h => h) (Or.inl ⟨by rfl, by rintro w hs1; first | rfl | (go_simp; done) | (go_simp; rfl)⟩) (by assumption) ?_
              simp only [Act.put, List.setIfInBounds_toArray, List.set_cons_zero, List.set_cons_succ]
              refine wpAnyH_takeD (i := 2) (v := u1) (some 124) rfl (by kernel_rfl) (by kernel_rfl) (by kernel_rfl) rfl (fun _ _ _ h => h) (yieldsIf_hi_run (by rfl) _ _ rfl rfl rfl (fun W => hu1 W)) (by assumption) ?_
              simp only [Act.put, List.setIfInBounds_toArray, List.set_cons_zero, List.set_cons_succ]
              refine wpAnyH_takeD (i := 4) (some 126) rfl (by kernel_rfl) (by kernel_rfl) (by kernel_rfl) rfl (fun _ _ _ h => h) (Or.inl ⟨by rfl, by rintro w hs1; first | rfl | (go_simp; done) | (go_simp; rfl)⟩) (by assumption) ?_
              simp only [Act.put, List.setIfInBounds_toArray, List.set_cons_zero, List.set_cons_succ]
              refine wpAnyH_takeD (i := 5) (some 127) rfl (by kernel_rfl) (by kernel_rfl) (by kernel_rfl) rfl (fun _ _ _ h => h) (Or.inl ⟨by rfl, by rintro w hs1; first | rfl | (go_simp; done) | (go_simp; rfl)⟩) (by assumption) ?_
              simp only [Act.put, List.setIfInBounds_toArray, List.set_cons_zero, List.set_cons_succ]
              refine wpAnyH_takeD (i := 6) (v := Value.int .i64 ((c : Int) + 1)) (some 128) rfl (by kernel_rfl) (by kernel_rfl) (by kernel_rfl) rfl (fun _ _ _ h => h) (yieldsIf_bin_run (by rfl) _ _ rfl rfl rfl (fun W => by rfl) (fun W => hsum W)) (by assumption) ?_
              simp only [Act.put, List.setIfInBounds_toArray, List.set_cons_zero, List.set_cons_succ]
              refine wpAnyH_takeD (i := 7) (v := u2) (some 129) rfl (by kernel_rfl) (by kernel_rfl) (by kernel_rfl) rfl (fun _ _ _ h => h) (yieldsIf_lo_run (by rfl) _ _ rfl rfl rfl (fun W => hu2 W)) (by assumption) ?_
              simp only [Act.put, List.setIfInBounds_toArray, List.set_cons_zero, List.set_cons_succ]
              refine wpAnyH_ready (rs := [3]) (by kernel_rfl) (by simp) ?_
              refine AllReadyH.cons rfl (fun K hK => ?_) AllReadyH.nil
              refine step_append_run (d := some 125) hap _ _ rfl rfl rfl rfl rfl rfl ?_
              refine hK.out _ _ trivial (fun hHeld => ?_)
              clear hK hap
              try simp only [Act.put, List.setIfInBounds_toArray, List.set_cons_zero, List.set_cons_succ]
              refine wpAnyH_ready (rs := [8]) (by kernel_rfl) (by simp) ?_
              refine AllReadyH.cons rfl (fun K hK => ?_) AllReadyH.nil
              refine step_append_run (d := some 130) hap9 _ _ rfl rfl rfl rfl rfl rfl ?_
              refine hK.out _ _ trivial (fun hHeld => ?_)
              clear hK hap9
              try simp only [Act.put, List.setIfInBounds_toArray, List.set_cons_zero, List.set_cons_succ]
              refine wpAnyH_takeD (i := 9) (some 14) rfl (by kernel_rfl) (by kernel_rfl) (by kernel_rfl) rfl (fun _ _ _ h => h) (Or.inl ⟨by rfl, by rintro w hs1; first | rfl | (go_simp; done) | (go_simp; rfl)⟩) (by assumption) ?_
              simp only [Act.put, List.setIfInBounds_toArray, List.set_cons_zero, List.set_cons_succ]
              refine wpAnyH_done (by kernel_rfl) ?_ _
              go_wp2_with (fail)
              go_roundw
              case rel => exact ⟨i + 1, _, by go_num, F9.out⟩
              case measure => simp [intOf]; omega
            · have yo : ¬ ((i : Int) < (l1.length : Int)) := by omega
              obtain ⟨c, hc0⟩ : ∃ c : Nat, c = 0 := ⟨_, rfl⟩
              have hc : c < rs.length := by omega
              have hcz : Hid ((0 : Int) = (c : Int)) := Lib.hid (by omega)
              clear hc0
              obtain ⟨cb2, co2, rfl, hcl2⟩ := hrit.out c hc
              have HS1 : Hid (∀ W' : World, Keeps w3.heap.size wz W' → W'.cell? ⟨cb, co + i, none⟩ = some (.int .i64 ((l[i] : Nat) : Int)) ∧ W'.cell? ⟨cb2, co2 + c, none⟩ = some (.int .i64 ((rs[c] : Nat) : Int))) := Lib.hid fun (W' : World) h => ⟨hcl.out W' h, hcl2 W' h⟩
              clear hcl2
              have hrl2 := HR.out.sub rs[c] (List.getElem_mem hc)
              have hrc4 := hlk rs[c] hrl2
              have hsum : ∀ W : World, (binOp .add 3 (.int .i64 (c : Int)) (.int .i64 1)).run Try.prog W = .ok (.int .i64 ((c : Int) + 1)) W := sum_one c (by omega)
              have cA := one_set (HR.out.oa.below (Below.drew_ wz)) (HR.out.ob.below (Below.drew_ wz)) (fun q hq => turned_ge HhB.out (Nat.le_trans hS hq)) l[i] hkl ((l[i] : Nat) : Int) (by omega) (by omega) l (fun k hk h => keyF_mem h) (by omega)
              obtain ⟨li, hle⟩ : ∃ li : Nat, l[i] = li := ⟨_, rfl⟩
              obtain ⟨rc, hre⟩ : ∃ rc : Nat, rs[c] = rc := ⟨_, rfl⟩
              rw [hle, hre] at HS1
              rw [hle] at cA hkl
              rw [hre] at hrl2 hrc4
              have hli2 := Lib.hid hle
              have hrc2 := Lib.hid hre
              clear hle hre
              go_upto_region 26 with (fail)
              rw [hcz.out]
              refine wp_region_held_drew (S := fun W => W.cell? ⟨cb, co + i, none⟩ = some (.int .i64 (li : Int)) ∧ W.cell? ⟨cb2, co2 + c, none⟩ = some (.int .i64 (rc : Int))) (by kernel_rfl) (HS1.out _ (Keeps.drew _ _)) (fun hHeld => ?_)
              refine wpAnyH_takeD (i := 0) (some 86) rfl (by kernel_rfl) (by kernel_rfl) (by kernel_rfl) rfl (fun _ _ _ h => h) (Or.inl ⟨by rfl, by rintro w ⟨hs1, hs2⟩; first | rfl | (go_simp; done) | (go_simp; rfl)⟩) (by assumption) ?_
              simp only [Act.put, List.setIfInBounds_toArray, List.set_cons_zero, List.set_cons_succ]
              refine wpAnyH_takeD (i := 1) (some 87) rfl (by kernel_rfl) (by kernel_rfl) (by kernel_rfl) rfl (fun _ _ _ h => h) (Or.inl ⟨by rfl, by rintro w ⟨hs1, hs2⟩; first | rfl | (go_simp; done) | (go_simp; rfl)⟩) (by assumption) ?_
              simp only [Act.put, List.setIfInBounds_toArray, List.set_cons_zero, List.set_cons_succ]
              refine wpAnyH_takeD (i := 2) (some 88) rfl (by kernel_rfl) (by kernel_rfl) (by kernel_rfl) rfl (fun _ _ _ h => h) (Or.inl ⟨by rfl, by rintro w ⟨hs1, hs2⟩; first | rfl | (go_simp; done) | (go_simp; rfl)⟩) (by assumption) ?_
              simp only [Act.put, List.setIfInBounds_toArray, List.set_cons_zero, List.set_cons_succ]
              refine wpAnyH_takeD (i := 3) (some 89) rfl (by kernel_rfl) (by kernel_rfl) (by kernel_rfl) rfl (fun _ _ _ h => h) (Or.inl ⟨by rfl, by rintro w ⟨hs1, hs2⟩; first | rfl | (go_simp; done) | (go_simp; rfl)⟩) (by assumption) ?_
              simp only [Act.put, List.setIfInBounds_toArray, List.set_cons_zero, List.set_cons_succ]
              refine wpAnyH_takeD (i := 4) (v := Value.pointer (some ⟨cb, co + i, none⟩)) (some 90) rfl (by kernel_rfl) (by kernel_rfl) (by kernel_rfl) rfl (fun _ _ _ h => h) (yieldsIf_index_run (by rfl) _ _ rfl rfl rfl (ints_at cb co _ _ i hlt)) (by assumption) ?_
              simp only [Act.put, List.setIfInBounds_toArray, List.set_cons_zero, List.set_cons_succ]
              refine wpAnyH_takeD (i := 5) (v := Value.int .i64 (li : Int)) (some 91) rfl (by kernel_rfl) (by kernel_rfl) (by kernel_rfl) rfl (fun _ _ _ h => h) (yieldsIf_load_run (by rfl) _ rfl rfl (fun _ hs => int_load hs.1)) (by assumption) ?_
              simp only [Act.put, List.setIfInBounds_toArray, List.set_cons_zero, List.set_cons_succ]
              refine wpAnyH_takeD (i := 6) (some 92) rfl (by kernel_rfl) (by kernel_rfl) (by kernel_rfl) rfl (fun _ _ _ h => h) (Or.inl ⟨by rfl, by rintro w ⟨hs1, hs2⟩; first | rfl | (go_simp; done) | (go_simp; rfl)⟩) (by assumption) ?_
              simp only [Act.put, List.setIfInBounds_toArray, List.set_cons_zero, List.set_cons_succ]
              refine wpAnyH_takeD (i := 7) (some 93) rfl (by kernel_rfl) (by kernel_rfl) (by kernel_rfl) rfl (fun _ _ _ h => h) (Or.inl ⟨by rfl, by rintro w ⟨hs1, hs2⟩; first | rfl | (go_simp; done) | (go_simp; rfl)⟩) (by assumption) ?_
              simp only [Act.put, List.setIfInBounds_toArray, List.set_cons_zero, List.set_cons_succ]
              refine wpAnyH_takeD (i := 8) (v := Value.pointer (some ⟨cb, co + i, none⟩)) (some 94) rfl (by kernel_rfl) (by kernel_rfl) (by kernel_rfl) rfl (fun _ _ _ h => h) (yieldsIf_index_run (by rfl) _ _ rfl rfl rfl (ints_at cb co _ _ i hlt)) (by assumption) ?_
              simp only [Act.put, List.setIfInBounds_toArray, List.set_cons_zero, List.set_cons_succ]
              refine wpAnyH_takeD (i := 9) (v := Value.int .i64 (li : Int)) (some 95) rfl (by kernel_rfl) (by kernel_rfl) (by kernel_rfl) rfl (fun _ _ _ h => h) (yieldsIf_load_run (by rfl) _ rfl rfl (fun _ hs => int_load hs.1)) (by assumption) ?_
              simp only [Act.put, List.setIfInBounds_toArray, List.set_cons_zero, List.set_cons_succ]
              refine wpAnyH_ready (rs := [10]) (by kernel_rfl) (by simp) ?_
              refine AllReadyH.cons rfl (fun K hK => ?_) AllReadyH.nil
              go_simp
              refine cA.mono ?_
              rintro x wa ⟨rfl, oA1, oB1, T1⟩
              have K1 := (Keeps.drew w3.heap.size wz).trans (T1.keeps HhA.out)
              refine hK.out _ _ (HS1.out _ K1) (fun hHeld => ?_)
              clear hK
              try simp only [Act.put, List.setIfInBounds_toArray, List.set_cons_zero, List.set_cons_succ]
              have cB := one_set oB1 oA1 (fun q hq => turned_ge HhA.out (Nat.le_trans (Nat.le_trans hS K1.1) hq)) rc hrc4 9999 (by decide) (by decide) l (fun k hk h => keyF_mem h) (by omega)
              have W1 := (HW.out.trans ((Below.drew_ wz).mono hWz)).trans (T1.below' HloA.out hWz)
              clear oB1 oA1 T1 cA
              have K1' := Lib.hid K1
              have W1' := Lib.hid W1
              clear K1 W1
              refine wpAnyH_takeD (i := 11) (v := Value.bool false) (some 97) rfl (by kernel_rfl) (by kernel_rfl) (by kernel_rfl) rfl (fun _ _ _ h => h) (Or.inl ⟨by rfl, by rintro w ⟨hs1, hs2⟩; first | rfl | (go_simp; done) | (go_simp; rfl)⟩) (by assumption) ?_
              simp only [Act.put, List.setIfInBounds_toArray, List.set_cons_zero, List.set_cons_succ]
              refine wpAnyH_takeD (i := 12) (v := Value.bool false) (some 98) rfl (by kernel_rfl) (by kernel_rfl) (by kernel_rfl) rfl (fun _ _ _ h => h) (Or.inl ⟨by rfl, by rintro w ⟨hs1, hs2⟩; first | rfl | (go_simp; done) | (go_simp; rfl)⟩) (by assumption) ?_
              simp only [Act.put, List.setIfInBounds_toArray, List.set_cons_zero, List.set_cons_succ]
              refine wpAnyH_takeD (i := 13) (some 99) rfl (by kernel_rfl) (by kernel_rfl) (by kernel_rfl) rfl (fun _ _ _ h => h) (Or.inl ⟨by rfl, by rintro w ⟨hs1, hs2⟩; first | rfl | (go_simp; done) | (go_simp; rfl)⟩) (by assumption) ?_
              simp only [Act.put, List.setIfInBounds_toArray, List.set_cons_zero, List.set_cons_succ]
              refine wpAnyH_takeD (i := 14) (some 100) rfl (by kernel_rfl) (by kernel_rfl) (by kernel_rfl) rfl (fun _ _ _ h => h) (Or.inl ⟨by rfl, by rintro w ⟨hs1, hs2⟩; first | rfl | (go_simp; done) | (go_simp; rfl)⟩) (by assumption) ?_
              simp only [Act.put, List.setIfInBounds_toArray, List.set_cons_zero, List.set_cons_succ]
              refine wpAnyH_takeD (i := 15) (some 101) rfl (by kernel_rfl) (by kernel_rfl) (by kernel_rfl) rfl (fun _ _ _ h => h) (Or.inl ⟨by rfl, by rintro w ⟨hs1, hs2⟩; first | rfl | (go_simp; done) | (go_simp; rfl)⟩) (by assumption) ?_
              simp only [Act.put, List.setIfInBounds_toArray, List.set_cons_zero, List.set_cons_succ]
              refine wpAnyH_takeD (i := 16) (some 102) rfl (by kernel_rfl) (by kernel_rfl) (by kernel_rfl) rfl (fun _ _ _ h => h) (Or.inl ⟨by rfl, by rintro w ⟨hs1, hs2⟩; first | rfl | (go_simp; done) | (go_simp; rfl)⟩) (by assumption) ?_
              simp only [Act.put, List.setIfInBounds_toArray, List.set_cons_zero, List.set_cons_succ]
              refine wpAnyH_takeD (i := 17) (v := Value.pointer (some ⟨cb2, co2 + c, none⟩)) (some 103) rfl (by kernel_rfl) (by kernel_rfl) (by kernel_rfl) rfl (fun _ _ _ h => h) (yieldsIf_index_run (by rfl) _ _ rfl rfl rfl (ints_at cb2 co2 _ _ c hc)) (by assumption) ?_
              simp only [Act.put, List.setIfInBounds_toArray, List.set_cons_zero, List.set_cons_succ]
              refine wpAnyH_takeD (i := 18) (v := Value.int .i64 (rc : Int)) (some 104) rfl (by kernel_rfl) (by kernel_rfl) (by kernel_rfl) rfl (fun _ _ _ h => h) (yieldsIf_load_run (by rfl) _ rfl rfl (fun _ hs => int_load hs.2)) (by assumption) ?_
              simp only [Act.put, List.setIfInBounds_toArray, List.set_cons_zero, List.set_cons_succ]
              refine wpAnyH_ready (rs := [19]) (by kernel_rfl) (by simp) ?_
              refine AllReadyH.cons rfl (fun K hK => ?_) AllReadyH.nil
              go_simp
              refine cB.mono ?_
              rintro x wb ⟨rfl, oB2, oA2, T2⟩
              have K2 := K1'.out.trans (T2.keeps HhB.out)
              refine hK.out _ _ (HS1.out _ K2) (fun hHeld => ?_)
              clear hK
              try simp only [Act.put, List.setIfInBounds_toArray, List.set_cons_zero, List.set_cons_succ]
              have cC := one_set oB2 oA2 (fun q hq => turned_ge HhA.out (Nat.le_trans (Nat.le_trans hS K2.1) hq)) rc hrc4 (rc : Int) (by omega) (by omega) l (fun k hk h => by
                by_cases e : k = rc
                · rw [e]; exact hrl2
                · rw [if_neg e] at h; exact keyF_mem h) (by omega)
              have W2 := W1'.out.trans (T2.below' HloB.out (Nat.le_trans hWz K1'.out.1))
              clear oB2 oA2 T2 cB K1' W1'
              have K2' := Lib.hid K2
              have W2' := Lib.hid W2
              clear K2 W2
              refine wpAnyH_takeD (i := 20) (v := Value.bool false) (some 106) rfl (by kernel_rfl) (by kernel_rfl) (by kernel_rfl) rfl (fun _ _ _ h => h) (Or.inl ⟨by rfl, by rintro w ⟨hs1, hs2⟩; first | rfl | (go_simp; done) | (go_simp; rfl)⟩) (by assumption) ?_
              simp only [Act.put, List.setIfInBounds_toArray, List.set_cons_zero, List.set_cons_succ]
              refine wpAnyH_takeD (i := 21) (v := Value.bool false) (some 107) rfl (by kernel_rfl) (by kernel_rfl) (by kernel_rfl) rfl (fun _ _ _ h => h) (Or.inl ⟨by rfl, by rintro w ⟨hs1, hs2⟩; first | rfl | (go_simp; done) | (go_simp; rfl)⟩) (by assumption) ?_
              simp only [Act.put, List.setIfInBounds_toArray, List.set_cons_zero, List.set_cons_succ]
              refine wpAnyH_takeD (i := 22) (v := Value.bool false) (some 108) rfl (by kernel_rfl) (by kernel_rfl) (by kernel_rfl) rfl (fun _ _ _ h => h) (Or.inl ⟨by rfl, by rintro w ⟨hs1, hs2⟩; first | rfl | (go_simp; done) | (go_simp; rfl)⟩) (by assumption) ?_
              simp only [Act.put, List.setIfInBounds_toArray, List.set_cons_zero, List.set_cons_succ]
              refine wpAnyH_takeD (i := 23) (some 109) rfl (by kernel_rfl) (by kernel_rfl) (by kernel_rfl) rfl (fun _ _ _ h => h) (Or.inl ⟨by rfl, by rintro w ⟨hs1, hs2⟩; first | rfl | (go_simp; done) | (go_simp; rfl)⟩) (by assumption) ?_
              simp only [Act.put, List.setIfInBounds_toArray, List.set_cons_zero, List.set_cons_succ]
              refine wpAnyH_takeD (i := 24) (some 110) rfl (by kernel_rfl) (by kernel_rfl) (by kernel_rfl) rfl (fun _ _ _ h => h) (Or.inl ⟨by rfl, by rintro w ⟨hs1, hs2⟩; first | rfl | (go_simp; done) | (go_simp; rfl)⟩) (by assumption) ?_
              simp only [Act.put, List.setIfInBounds_toArray, List.set_cons_zero, List.set_cons_succ]
              refine wpAnyH_takeD (i := 25) (some 111) rfl (by kernel_rfl) (by kernel_rfl) (by kernel_rfl) rfl (fun _ _ _ h => h) (Or.inl ⟨by rfl, by rintro w ⟨hs1, hs2⟩; first | rfl | (go_simp; done) | (go_simp; rfl)⟩) (by assumption) ?_
              simp only [Act.put, List.setIfInBounds_toArray, List.set_cons_zero, List.set_cons_succ]
              refine wpAnyH_takeD (i := 26) (some 112) rfl (by kernel_rfl) (by kernel_rfl) (by kernel_rfl) rfl (fun _ _ _ h => h) (Or.inl ⟨by rfl, by rintro w ⟨hs1, hs2⟩; first | rfl | (go_simp; done) | (go_simp; rfl)⟩) (by assumption) ?_
              simp only [Act.put, List.setIfInBounds_toArray, List.set_cons_zero, List.set_cons_succ]
              refine wpAnyH_takeD (i := 27) (v := Value.pointer (some ⟨cb2, co2 + c, none⟩)) (some 113) rfl (by kernel_rfl) (by kernel_rfl) (by kernel_rfl) rfl (fun _ _ _ h => h) (yieldsIf_index_run (by rfl) _ _ rfl rfl rfl (ints_at cb2 co2 _ _ c hc)) (by assumption) ?_
              simp only [Act.put, List.setIfInBounds_toArray, List.set_cons_zero, List.set_cons_succ]
              refine wpAnyH_takeD (i := 28) (v := Value.int .i64 (rc : Int)) (some 114) rfl (by kernel_rfl) (by kernel_rfl) (by kernel_rfl) rfl (fun _ _ _ h => h) (yieldsIf_load_run (by rfl) _ rfl rfl (fun _ hs => int_load hs.2)) (by assumption) ?_
              simp only [Act.put, List.setIfInBounds_toArray, List.set_cons_zero, List.set_cons_succ]
              refine wpAnyH_takeD (i := 29) (some 115) rfl (by kernel_rfl) (by kernel_rfl) (by kernel_rfl) rfl (fun _ _ _ h => h) (Or.inl ⟨by rfl, by rintro w ⟨hs1, hs2⟩; first | rfl | (go_simp; done) | (go_simp; rfl)⟩) (by assumption) ?_
              simp only [Act.put, List.setIfInBounds_toArray, List.set_cons_zero, List.set_cons_succ]
              refine wpAnyH_takeD (i := 30) (some 116) rfl (by kernel_rfl) (by kernel_rfl) (by kernel_rfl) rfl (fun _ _ _ h => h) (Or.inl ⟨by rfl, by rintro w ⟨hs1, hs2⟩; first | rfl | (go_simp; done) | (go_simp; rfl)⟩) (by assumption) ?_
              simp only [Act.put, List.setIfInBounds_toArray, List.set_cons_zero, List.set_cons_succ]
              refine wpAnyH_takeD (i := 31) (v := Value.pointer (some ⟨cb2, co2 + c, none⟩)) (some 117) rfl (by kernel_rfl) (by kernel_rfl) (by kernel_rfl) rfl (fun _ _ _ h => h) (yieldsIf_index_run (by rfl) _ _ rfl rfl rfl (ints_at cb2 co2 _ _ c hc)) (by assumption) ?_
              simp only [Act.put, List.setIfInBounds_toArray, List.set_cons_zero, List.set_cons_succ]
              refine wpAnyH_takeD (i := 32) (v := Value.int .i64 (rc : Int)) (some 118) rfl (by kernel_rfl) (by kernel_rfl) (by kernel_rfl) rfl (fun _ _ _ h => h) (yieldsIf_load_run (by rfl) _ rfl rfl (fun _ hs => int_load hs.2)) (by assumption) ?_
              simp only [Act.put, List.setIfInBounds_toArray, List.set_cons_zero, List.set_cons_succ]
              refine wpAnyH_ready (rs := [33]) (by kernel_rfl) (by simp) ?_
              refine AllReadyH.cons rfl (fun K hK => ?_) AllReadyH.nil
              go_simp
              refine cC.mono ?_
              rintro x wc ⟨rfl, oB3, oA3, T3⟩
              have K3 := K2'.out.trans (T3.keeps HhB.out)
              refine hK.out _ _ (HS1.out _ K3) (fun hHeld => ?_)
              clear hK
              try simp only [Act.put, List.setIfInBounds_toArray, List.set_cons_zero, List.set_cons_succ]
              have W3 := W2'.out.trans (T3.below' HloB.out (Nat.le_trans hWz K2'.out.1))
              clear T3 cC K2' W2'
              have K3' := Lib.hid K3
              have W3' := Lib.hid W3
              have OB3 := Lib.hid oB3
              have OA3 := Lib.hid oA3
              clear K3 W3 oB3 oA3
              refine wpAnyH_takeD (i := 34) (v := Value.bool false) (some 120) rfl (by kernel_rfl) (by kernel_rfl) (by kernel_rfl) rfl (fun _ _ _ h => h) (Or.inl ⟨by rfl, by rintro w ⟨hs1, hs2⟩; first | rfl | (go_simp; done) | (go_simp; rfl)⟩) (by assumption) ?_
              simp only [Act.put, List.setIfInBounds_toArray, List.set_cons_zero, List.set_cons_succ]
              refine wpAnyH_takeD (i := 35) (v := Value.bool false) (some 121) rfl (by kernel_rfl) (by kernel_rfl) (by kernel_rfl) rfl (fun _ _ _ h => h) (Or.inl ⟨by rfl, by rintro w ⟨hs1, hs2⟩; first | rfl | (go_simp; done) | (go_simp; rfl)⟩) (by assumption) ?_
              simp only [Act.put, List.setIfInBounds_toArray, List.set_cons_zero, List.set_cons_succ]
              refine wpAnyH_done (by kernel_rfl) ?_ _
              have hor2 := HOr.out.same' (w' := wc) (fun q hq => K3'.out.2 q (HOr.out.o.lt q hq).1 (HOr.out.o.lt q hq).2)
              obtain ⟨u1, u2, hu1, hu2, ru1, ru2⟩ := parts_any hor2 hc
              obtain ⟨v8, w8, hap, o8, b8, hk8⟩ := Own.pushAll (P := Try.prog) (T := 28) Try.underlying28 q1 q2 q3 q4 rfl (Own.nil wc.drew wc.heap.size 3) (ru1.below (Below.drew_ wc)) (fun x hx => by
                obtain ⟨k, _, rfl⟩ := List.mem_map.1 hx; rfl) (Nat.le_refl _) (by rw [List.length_map, List.length_nil, List.length_take]; omega) (by rw [List.length_map, List.length_nil, List.length_take]; omega)
              rw [List.nil_append] at o8
              have b18 := (Below.drew_ wc).trans b8
              obtain ⟨v9, w9, hap9, o9, b9, hk9⟩ := Own.pushAll (P := Try.prog) (T := 28) Try.underlying28 q1 q2 q3 q4 rfl o8 (ru2.below b18) (fun x hx => by
                obtain ⟨k, _, rfl⟩ := List.mem_map.1 hx; rfl) b18.size (by rw [List.length_map, List.length_map, List.length_take, List.length_drop]; omega) (by rw [List.length_map, List.length_map, List.length_take, List.length_drop]; omega)
              rw [← List.map_append] at o9
              have b19 := b18.trans b9
              have F9 : Hid (Rel3 W w3.heap.size A B l (some ⟨cb, co, none⟩) vc (i + 1) (rs.take c ++ rs.drop (c + 1)) v9 w9) := Lib.hid (rel3_next HR.out hlt hc hli2.out hrc2.out K3'.out OA3.out OB3.out W3'.out b19 o9)
              clear o8 b8 hk8 o9 b9 hk9 b18 b19 ru1 ru2 hor2 K3' W3' OB3 OA3 hHeld
              go_upto_region 28 with (fail)
              refine wp_region_held_drew (S := fun _ => True) (by kernel_rfl) trivial (fun hHeld => ?_)
              refine wpAnyH_takeD (i := 0) (some 122) rfl (by kernel_rfl) (by kernel_rfl) (by kernel_rfl) rfl (fun _ _ _ h => h) (Or.inl ⟨by rfl, by rintro w hs1; first | rfl | (go_simp; done) | (go_simp; rfl)⟩) (by assumption) ?_
              simp only [Act.put, List.setIfInBounds_toArray, List.set_cons_zero, List.set_cons_succ]
              refine wpAnyH_takeD (i := 1) (some 123) rfl (by kernel_rfl) (by kernel_rfl) (by kernel_rfl) rfl (fun _ _ _ h => h) (Or.inl ⟨by rfl, by rintro w hs1; first | rfl | (go_simp; done) | (go_simp; rfl)⟩) (by assumption) ?_
              simp only [Act.put, List.setIfInBounds_toArray, List.set_cons_zero, List.set_cons_succ]
              refine wpAnyH_takeD (i := 2) (v := u1) (some 124) rfl (by kernel_rfl) (by kernel_rfl) (by kernel_rfl) rfl (fun _ _ _ h => h) (yieldsIf_hi_run (by rfl) _ _ rfl rfl rfl (fun W => hu1 W)) (by assumption) ?_
              simp only [Act.put, List.setIfInBounds_toArray, List.set_cons_zero, List.set_cons_succ]
              refine wpAnyH_takeD (i := 4) (some 126) rfl (by kernel_rfl) (by kernel_rfl) (by kernel_rfl) rfl (fun _ _ _ h => h) (Or.inl ⟨by rfl, by rintro w hs1; first | rfl | (go_simp; done) | (go_simp; rfl)⟩) (by assumption) ?_
              simp only [Act.put, List.setIfInBounds_toArray, List.set_cons_zero, List.set_cons_succ]
              refine wpAnyH_takeD (i := 5) (some 127) rfl (by kernel_rfl) (by kernel_rfl) (by kernel_rfl) rfl (fun _ _ _ h => h) (Or.inl ⟨by rfl, by rintro w hs1; first | rfl | (go_simp; done) | (go_simp; rfl)⟩) (by assumption) ?_
              simp only [Act.put, List.setIfInBounds_toArray, List.set_cons_zero, List.set_cons_succ]
              refine wpAnyH_takeD (i := 6) (v := Value.int .i64 ((c : Int) + 1)) (some 128) rfl (by kernel_rfl) (by kernel_rfl) (by kernel_rfl) rfl (fun _ _ _ h => h) (yieldsIf_bin_run (by rfl) _ _ rfl rfl rfl (fun W => by rfl) (fun W => hsum W)) (by assumption) ?_
              simp only [Act.put, List.setIfInBounds_toArray, List.set_cons_zero, List.set_cons_succ]
              refine wpAnyH_takeD (i := 7) (v := u2) (some 129) rfl (by kernel_rfl) (by kernel_rfl) (by kernel_rfl) rfl (fun _ _ _ h => h) (yieldsIf_lo_run (by rfl) _ _ rfl rfl rfl (fun W => hu2 W)) (by assumption) ?_
              simp only [Act.put, List.setIfInBounds_toArray, List.set_cons_zero, List.set_cons_succ]
              refine wpAnyH_ready (rs := [3]) (by kernel_rfl) (by simp) ?_
              refine AllReadyH.cons rfl (fun K hK => ?_) AllReadyH.nil
              refine step_append_run (d := some 125) hap _ _ rfl rfl rfl rfl rfl rfl ?_
              refine hK.out _ _ trivial (fun hHeld => ?_)
              clear hK hap
              try simp only [Act.put, List.setIfInBounds_toArray, List.set_cons_zero, List.set_cons_succ]
              refine wpAnyH_ready (rs := [8]) (by kernel_rfl) (by simp) ?_
              refine AllReadyH.cons rfl (fun K hK => ?_) AllReadyH.nil
              refine step_append_run (d := some 130) hap9 _ _ rfl rfl rfl rfl rfl rfl ?_
              refine hK.out _ _ trivial (fun hHeld => ?_)
              clear hK hap9
              try simp only [Act.put, List.setIfInBounds_toArray, List.set_cons_zero, List.set_cons_succ]
              refine wpAnyH_takeD (i := 9) (some 14) rfl (by kernel_rfl) (by kernel_rfl) (by kernel_rfl) rfl (fun _ _ _ h => h) (Or.inl ⟨by rfl, by rintro w hs1; first | rfl | (go_simp; done) | (go_simp; rfl)⟩) (by assumption) ?_
              simp only [Act.put, List.setIfInBounds_toArray, List.set_cons_zero, List.set_cons_succ]
              refine wpAnyH_done (by kernel_rfl) ?_ _
              go_wp2_with (fail)
              go_roundw
              case rel => exact ⟨i + 1, _, by go_num, F9.out⟩
              case measure => simp [intOf]; omega
          · obtain rfl : i = l.length := by omega
            have z3 : ¬ ((l.length : Int) < (l.length : Int)) := by omega
            obtain rfl : rs = [] := List.eq_nil_of_length_eq_zero (by omega)
            have oA := (hR.oa.below (Below.drew_ wz))
            have oB := (hR.ob.below (Below.drew_ wz))
            rw [List.drop_length] at oA
            obtain ⟨nu, hnu, hused⟩ := two_used oA oB
            have crA := one_right oA
            have HoA := Lib.hid oA
            have HoB := Lib.hid oB
            have HW := Lib.hid hR.w
            have HU := Lib.hid hused
            have HSz := Lib.hid hR.ws
            clear hR oA oB hused
            go_upto_region 29 with (fail)
            refine wp_region_held_drew (S := fun W => W.cell? ⟨A.bk, 0, none⟩ = some (.pointer (some ⟨A.g, 0, none⟩)) ∧ W.cell? ⟨B.bk, 0, none⟩ = some (.pointer (some ⟨B.g, 0, none⟩))) (by kernel_rfl) ⟨one_cell HoA.out, one_cell HoB.out⟩ (fun hHeld => ?_)
            refine wpAnyH_takeD (i := 0) (some 131) rfl (by kernel_rfl) (by kernel_rfl) (by kernel_rfl) rfl (fun _ _ _ h => h) (Or.inl ⟨by rfl, by rintro w ⟨hs1, hs2⟩; first | rfl | (go_simp; done) | (go_simp; rfl)⟩) (by assumption) ?_
            simp only [Act.put, List.setIfInBounds_toArray, List.set_cons_zero, List.set_cons_succ]
            refine wpAnyH_ready (rs := [1]) (by kernel_rfl) (by simp) ?_
            refine AllReadyH.cons rfl (fun K hK => ?_) AllReadyH.nil
            go_simp
            refine crA.mono ?_
            rintro x wa ⟨rfl, ba⟩
            have oA1 := HoA.out.below ba
            have oB1 := HoB.out.below ba
            have crB := one_right oB1
            refine hK.out _ _ ⟨one_cell oA1, one_cell oB1⟩ (fun hHeld => ?_)
            clear hK
            try simp only [Act.put, List.setIfInBounds_toArray, List.set_cons_zero, List.set_cons_succ]
            have Ba := Lib.hid ba
            have OB1 := Lib.hid oB1
            have OA1 := Lib.hid oA1
            clear ba oA1 oB1 crA
            refine wpAnyH_takeD (i := 2) (v := Value.bool true) (some 133) rfl (by kernel_rfl) (by kernel_rfl) (by kernel_rfl) rfl (fun _ _ _ h => h) (Or.inl ⟨by rfl, by rintro w ⟨hs1, hs2⟩; first | rfl | (go_simp; done) | (go_simp; rfl)⟩) (by assumption) ?_
            simp only [Act.put, List.setIfInBounds_toArray, List.set_cons_zero, List.set_cons_succ]
            refine wpAnyH_takeD (i := 3) (some 134) rfl (by kernel_rfl) (by kernel_rfl) (by kernel_rfl) rfl (fun _ _ _ h => h) (Or.inl ⟨by rfl, by rintro w ⟨hs1, hs2⟩; first | rfl | (go_simp; done) | (go_simp; rfl)⟩) (by assumption) ?_
            simp only [Act.put, List.setIfInBounds_toArray, List.set_cons_zero, List.set_cons_succ]
            refine wpAnyH_ready (rs := [4]) (by kernel_rfl) (by simp) ?_
            refine AllReadyH.cons rfl (fun K hK => ?_) AllReadyH.nil
            go_simp
            refine crB.mono ?_
            rintro x wb ⟨rfl, bb⟩
            have oA1 := OA1.out.below bb
            have oB1 := OB1.out.below bb
            have bab := Ba.out.trans (bb.mono Ba.out.size)
            have cuu := HU.out wb bab
            refine hK.out _ _ ⟨one_cell oA1, one_cell oB1⟩ (fun hHeld => ?_)
            clear hK
            try simp only [Act.put, List.setIfInBounds_toArray, List.set_cons_zero, List.set_cons_succ]
            have HFin := Lib.hid (HW.out.trans (((Below.drew_ wz).trans bab).mono HSz.out))
            have cua := cuu.1
            have cub := cuu.2
            clear bb oA1 oB1 bab cuu crB Ba OB1 OA1
            refine wpAnyH_takeD (i := 5) (v := Value.bool true) (some 136) rfl (by kernel_rfl) (by kernel_rfl) (by kernel_rfl) rfl (fun _ _ _ h => h) (Or.inl ⟨by rfl, by rintro w ⟨hs1, hs2⟩; first | rfl | (go_simp; done) | (go_simp; rfl)⟩) (by assumption) ?_
            simp only [Act.put, List.setIfInBounds_toArray, List.set_cons_zero, List.set_cons_succ]
            refine wpAnyH_takeD (i := 6) (v := Value.bool true) (some 137) rfl (by kernel_rfl) (by kernel_rfl) (by kernel_rfl) rfl (fun _ _ _ h => h) (Or.inl ⟨by rfl, by rintro w ⟨hs1, hs2⟩; first | rfl | (go_simp; done) | (go_simp; rfl)⟩) (by assumption) ?_
            simp only [Act.put, List.setIfInBounds_toArray, List.set_cons_zero, List.set_cons_succ]
            refine wpAnyH_takeD (i := 7) (some 138) rfl (by kernel_rfl) (by kernel_rfl) (by kernel_rfl) rfl (fun _ _ _ h => h) (Or.inl ⟨by rfl, by rintro w ⟨hs1, hs2⟩; first | rfl | (go_simp; done) | (go_simp; rfl)⟩) (by assumption) ?_
            simp only [Act.put, List.setIfInBounds_toArray, List.set_cons_zero, List.set_cons_succ]
            refine wpAnyH_takeD (i := 8) (v := Value.pointer (some ⟨A.bk, 0, none⟩)) (some 139) rfl (by kernel_rfl) (by kernel_rfl) (by kernel_rfl) rfl (fun _ _ _ h => h) (Or.inl ⟨by rfl, by rintro w ⟨hs1, hs2⟩; first | rfl | (go_simp; done) | (go_simp; rfl)⟩) (by assumption) ?_
            simp only [Act.put, List.setIfInBounds_toArray, List.set_cons_zero, List.set_cons_succ]
            refine wpAnyH_takeD (i := 9) (v := Value.pointer (some ⟨A.bk, 0, none⟩)) (some 140) rfl (by kernel_rfl) (by kernel_rfl) (by kernel_rfl) rfl (fun _ _ _ h => h) (Or.inl ⟨by rfl, by rintro w ⟨hs1, hs2⟩; first | rfl | (go_simp; done) | (go_simp; rfl)⟩) (by assumption) ?_
            simp only [Act.put, List.setIfInBounds_toArray, List.set_cons_zero, List.set_cons_succ]
            refine wpAnyH_takeD (i := 10) (v := Value.pointer (some ⟨A.g, 0, none⟩)) (some 141) rfl (by kernel_rfl) (by kernel_rfl) (by kernel_rfl) rfl (fun _ _ _ h => h) (yieldsIf_load_run (by rfl) _ rfl rfl (fun _ hs => tab_load hs.1)) (by assumption) ?_
            simp only [Act.put, List.setIfInBounds_toArray, List.set_cons_zero, List.set_cons_succ]
            refine wpAnyH_takeD (i := 12) (some 143) rfl (by kernel_rfl) (by kernel_rfl) (by kernel_rfl) rfl (fun _ _ _ h => h) (Or.inl ⟨by rfl, by rintro w ⟨hs1, hs2⟩; first | rfl | (go_simp; done) | (go_simp; rfl)⟩) (by assumption) ?_
            simp only [Act.put, List.setIfInBounds_toArray, List.set_cons_zero, List.set_cons_succ]
            refine wpAnyH_takeD (i := 13) (v := Value.pointer (some ⟨B.bk, 0, none⟩)) (some 144) rfl (by kernel_rfl) (by kernel_rfl) (by kernel_rfl) rfl (fun _ _ _ h => h) (Or.inl ⟨by rfl, by rintro w ⟨hs1, hs2⟩; first | rfl | (go_simp; done) | (go_simp; rfl)⟩) (by assumption) ?_
            simp only [Act.put, List.setIfInBounds_toArray, List.set_cons_zero, List.set_cons_succ]
            refine wpAnyH_takeD (i := 14) (v := Value.pointer (some ⟨B.bk, 0, none⟩)) (some 145) rfl (by kernel_rfl) (by kernel_rfl) (by kernel_rfl) rfl (fun _ _ _ h => h) (Or.inl ⟨by rfl, by rintro w ⟨hs1, hs2⟩; first | rfl | (go_simp; done) | (go_simp; rfl)⟩) (by assumption) ?_
            simp only [Act.put, List.setIfInBounds_toArray, List.set_cons_zero, List.set_cons_succ]
            refine wpAnyH_takeD (i := 15) (v := Value.pointer (some ⟨B.g, 0, none⟩)) (some 146) rfl (by kernel_rfl) (by kernel_rfl) (by kernel_rfl) rfl (fun _ _ _ h => h) (yieldsIf_load_run (by rfl) _ rfl rfl (fun _ hs => tab_load hs.2)) (by assumption) ?_
            simp only [Act.put, List.setIfInBounds_toArray, List.set_cons_zero, List.set_cons_succ]
            refine wpAnyH_ready (rs := [11]) (by kernel_rfl) (by simp) ?_
            refine AllReadyH.cons rfl (fun K hK => ?_) AllReadyH.nil
            go_simp
            refine cua.mono ?_
            rintro x wz2 ⟨rfl, rfl⟩
            refine hK.out _ _ hHeld (fun hHeld => ?_)
            clear hK
            try simp only [Act.put, List.setIfInBounds_toArray, List.set_cons_zero, List.set_cons_succ]
            refine wpAnyH_ready (rs := [16]) (by kernel_rfl) (by simp) ?_
            refine AllReadyH.cons rfl (fun K hK => ?_) AllReadyH.nil
            go_simp
            refine cub.mono ?_
            rintro x wz3 ⟨rfl, rfl⟩
            refine hK.out _ _ hHeld (fun hHeld => ?_)
            clear hK
            try simp only [Act.put, List.setIfInBounds_toArray, List.set_cons_zero, List.set_cons_succ]
            refine wpAnyH_takeD (i := 17) (v := Value.bool true) (some 148) rfl (by kernel_rfl) (by kernel_rfl) (by kernel_rfl) rfl (fun _ _ _ h => h) (yieldsIf_bin_run (by rfl) _ _ rfl rfl rfl (fun W => by rfl) (fun W => eql_same nu W)) (by assumption) ?_
            simp only [Act.put, List.setIfInBounds_toArray, List.set_cons_zero, List.set_cons_succ]
            refine wpAnyH_takeD (i := 18) (v := Value.bool true) (some 149) rfl (by kernel_rfl) (by kernel_rfl) (by kernel_rfl) rfl (fun _ _ _ h => h) (Or.inl ⟨by rfl, by rintro w ⟨hs1, hs2⟩; first | rfl | (go_simp; done) | (go_simp; rfl)⟩) (by assumption) ?_
            simp only [Act.put, List.setIfInBounds_toArray, List.set_cons_zero, List.set_cons_succ]
            refine wpAnyH_takeD (i := 19) (v := Value.bool true) (some 4) rfl (by kernel_rfl) (by kernel_rfl) (by kernel_rfl) rfl (fun _ _ _ h => h) (Or.inl ⟨by rfl, by rintro w ⟨hs1, hs2⟩; first | rfl | (go_simp; done) | (go_simp; rfl)⟩) (by assumption) ?_
            simp only [Act.put, List.setIfInBounds_toArray, List.set_cons_zero, List.set_cons_succ]
            refine wpAnyH_done (by kernel_rfl) ?_ _
            go_wp2_with (fail)
            go_ret
            exact ⟨rfl, HFin.out⟩
end Go.Proofs.Ytlbjfigdocbffaa
