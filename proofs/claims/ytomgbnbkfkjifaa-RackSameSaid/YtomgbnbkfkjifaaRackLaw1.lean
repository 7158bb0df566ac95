/- rack: RackOnce. -/
import Derived.Test.YtomgbnbkfkjifaaRackRows
import Derived.Test.YtomgbnbkfkjifaaClsTail
namespace Go.Proofs.Ytomgbnbkfkjifaa
open Go.RowKit
set_option linter.unusedVariables false
set_option linter.unusedSimpArgs false
set_option maxRecDepth 100000

/-- Members that live. -/
def GoodM (M : Nat → Mst) (n s c : Nat) : Prop := ∀ i, i < n → ∃ L V, M i = ⟨false, L, V⟩ ∧ L.length = s ∧ ∀ z, (V z).length ≤ c
theorem GoodM.write {M : Nat → Mst} {n s c : Nat} (h : GoodM M n s c) (d : Nat) {L : List ByteArray} {V : Int → List ByteArray} (hL : L.length = s) (hV : ∀ z, (V z).length ≤ c) (a : Int) (t : ByteArray) : GoodM (upd M d ⟨false, L, updZ V a (V a ++ [t])⟩) n s (c + 1) := fun i hi => by
  by_cases e : i = d
  · subst e
    exact ⟨L, _, upd_same _ _ _, hL, updV9_le hV a t⟩
  · obtain ⟨L', V', h1, h2, h3⟩ := h i hi
    exact ⟨L', V', by rw [upd_other _ _ _ _ e]; exact h1, h2, fun z => by have := h3 z; omega⟩
theorem GoodM.mono {M : Nat → Mst} {n s c d : Nat} (h : GoodM M n s c) (hd : c ≤ d) : GoodM M n s d := fun i hi => by
  obtain ⟨L, V, h1, h2, h3⟩ := h i hi
  exact ⟨L, V, h1, h2, fun z => by have := h3 z; omega⟩
theorem GoodM.start (n s c : Nat) : GoodM (blankM s) n s c := fun i hi => ⟨_, _, rfl, by simp, fun z => by simp [noV]⟩
/-- Where crashes leave good members. -/
def liveM (C : Nat → List ByteArray) : Nat → Mst := fun i => ⟨false, C i, noV⟩
theorem GoodM.crash {M : Nat → Mst} {n s c : Nat} (h : GoodM M n s c) (l : List (Value × List Int)) : ∃ C, (∀ i, i < n → crashM (M i) (chs l i) = liveM C i) ∧ ∀ i, i < n → (C i).length = s :=
  ⟨fun i => (crashM (M i) (chs l i)).L, fun i hi => by
    obtain ⟨L, V, h1, _, _⟩ := h i hi
    show crashM (M i) (chs l i) = ⟨false, (crashM (M i) (chs l i)).L, noV⟩
    rw [h1]; rfl, fun i hi => by
    obtain ⟨L, V, h1, h2, _⟩ := h i hi
    show (crashM (M i) (chs l i)).L.length = s
    rw [h1]; exact (crashN_len _ _ _).trans h2⟩
theorem live_crash (C : Nat → List ByteArray) (l : List (Value × List Int)) (i : Nat) : crashM (liveM C i) (chs l i) = liveM C i := by
  unfold crashM liveM; rw [crashN]
theorem nxt0 : nxt 0 = 0 := if_pos rfl
theorem live_congr {f g : Nat → List ByteArray} {i : Nat} (h : f i = g i) : liveM f i = liveM g i := by unfold liveM; rw [h]
/-- As far as j the first sectors are written anew. -/
def stepC (C : Nat → List ByteArray) (j : Nat) : Nat → List ByteArray := fun i => if i < j then (C i).set 0 (sec (i : Int)) else C i
theorem stepC_lt (C : Nat → List ByteArray) {i j : Nat} (h : i < j) : stepC C j i = (C i).set 0 (sec (i : Int)) := if_pos h
theorem stepC_ge (C : Nat → List ByteArray) {i j : Nat} (h : ¬ i < j) : stepC C j i = C i := if_neg h
theorem slice_tail1 (x : Nat) (W : World) : (Instr.slice 44 (.slice (some ⟨x, 0, none⟩) 5 5) (some (.int .i64 1)) none none).run Try.prog W = .ok (.slice (some ⟨x, 1, none⟩) 4 4) W := by
  obtain ⟨si, s1, s2, s3, s4⟩ := str_is9
  simp [Instr.slice, run_underlying Try.underlying44, Instr.sliceBounds, Instr.sliceBound, asIntOf, sizeOf, typeInfo, s1, s3, Addr.add]
theorem Own.tail1 {w : World} {B x : Nat} {l : List ByteArray} (h : Own w B 9 (.slice (some ⟨x, 0, none⟩) 5 5) (l.map .string)) (hl : l.length = 5) : Reads w (.slice (some ⟨x, 1, none⟩) 4 4) ((l.drop 1).map .string) :=
  .inr ⟨x, 1, 4, by rw [List.length_map, List.length_drop, hl], h.lt.2, fun i hi => by
    rw [List.length_map, List.length_drop, hl] at hi
    rw [h.cell (i := 1 + i) (by rw [List.length_map]; omega), List.getD_eq_getElem?_getD, List.getD_eq_getElem?_getD, List.getElem?_map, List.getElem?_map, List.getElem?_drop]⟩
set_option maxHeartbeats 4000000 in
theorem once_walk (v : Value) (ls : List Int) (v1 : Value) (l1 : List (Value × List Int)) (v2 : Value) (l2 : List (Value × List Int)) (w : World) (hR : Reads w v (ls.map (.int .i64))) (hF : ∀ n ∈ ls, (Lit.int .i64 n).wf = true)
    (hC1 : ChR w v1 l1) (hC2 : ChR w v2 l2) (hn1 : l1.length ≤ 140737488355328) (hn2 : l2.length ≤ 140737488355328) :
    Calls Try.prog 7 #[v, v1, v2] w (Ends w true) := by
  have cN : ∀ W, Calls Try.prog 9 #[.int .i64 3, .int .i64 5] W fun e w' => ∃ S k, e = .returned (.tuple #[.pointer (some ⟨k, 0, none⟩), .int .i64 0]) ∧ RS W S w' k 3 (blankM 5) false 0 0 := fun W => rs_new 3 5 W (by omega) (by omega) (by omega) (by omega)
  have hIn : ∀ k, k < ls.length → In64 (ls.getD k 0) := fun k hk => by
    rw [List.getD_eq_getElem?_getD, List.getElem?_eq_getElem hk]; exact hF _ (List.getElem_mem hk)
  have hlenv := fun W => hR.len_run (P := Try.prog) Try.underlying48 3 W
  rw [List.length_map] at hlenv
  clear hF
  go_enter Try.func7, Try.ntmps7
  go_wp2_with (fail)
  refine (awake9_any _).mono ?_
  rintro e w1 ⟨rfl, b1⟩
  have hR1 := hR.below b1
  have hD1 := hC1.below b1
  have hD2 := hC2.below b1
  go_wp2_with (fail)
  refine (cN _).mono ?_
  rintro e w2 ⟨S0, kk, rfl, h1⟩
  have hb1H := Lib.hid b1
  clear b1 cN hR hC1 hC2
  go_wp2_with (fail)
  go_loopw [10, 11] (fun t _ wr => ∃ (k : Nat) (S : Nat → Prop) (M : Nat → Mst), k ≤ 60 ∧ k ≤ ls.length ∧ t = .int .i64 (k : Int) ∧ RS w1 S wr kk 3 M false (k : Int) 0 ∧ GoodM M 3 5 k) (fun t _ _ => 60 - (intOf t).toNat)
  case atStart => exact ⟨0, S0, _, by omega, by omega, rfl, h1, GoodM.start 3 5 0⟩
  case round =>
    clear h1
    obtain ⟨k, S, M, hk50, hkl, rfl, hB, hG⟩ := hrel
    by_cases hlt : k < ls.length ∧ k < 60
    · obtain ⟨hl1, hl2⟩ := hlt
      obtain ⟨va, vcap, rfl, vcell⟩ := hR1.nums
      obtain ⟨cb, co, rfl, clt1, cc1⟩ := vcell k hl1
      have hcI := hIn k hl1
      obtain ⟨c, hc⟩ : ∃ c, ls.getD k 0 = c := ⟨_, rfl⟩
      rw [hc] at hcI cc1
      have cc0 := (hB.b.cell (p := ⟨cb, co + k, none⟩) clt1).trans cc1
      obtain ⟨cc, hcc⟩ : ∃ r, pickC c % 1048576 = r := ⟨_, rfl⟩
      have hccb : cc < 1048576 := by rw [← hcc]; exact Nat.mod_lt _ (by omega)
      have cp : ∀ W, Calls Try.prog 11 #[.int .i64 c, .int .i64 1048576] W fun e w' => e = .returned (.int .i64 (cc : Int)) ∧ W = w' := fun W => by
        have := pick9_any c 1048576 hcI (by omega) (by omega) W
        rw [hcc] at this; exact this
      obtain ⟨d, hd⟩ : ∃ d, cc % 3 = d := ⟨_, rfl⟩
      obtain ⟨q, hq⟩ : ∃ q, cc / 3 = q := ⟨_, rfl⟩
      obtain ⟨a, haa⟩ : ∃ a, q % 5 = a := ⟨_, rfl⟩
      have m1 : (cc : Int) % 3 = (d : Int) := by omega
      have m2 : ((cc : Int)).tmod 3 = (d : Int) := by rw [Int.tmod_eq_emod_of_nonneg (by omega)]; exact m1
      have m3 : (cc : Int) / 3 = (q : Int) := by omega
      have m4 : ((cc : Int)).tdiv 3 = (q : Int) := by rw [Int.tdiv_eq_ediv_of_nonneg (by omega)]; exact m3
      have m5 : IntKind.i64.wrap (q : Int) = (q : Int) := wrap_in (by omega) (by omega)
      have m6 : (q : Int) % 5 = (a : Int) := by omega
      have m7 : ((q : Int)).tmod 5 = (a : Int) := by rw [Int.tmod_eq_emod_of_nonneg (by omega)]; exact m6
      have hd3 : d < 3 := by omega
      have ha5 : a < 5 := by omega
      have cS : ∀ W, Calls Try.prog 13 #[.int .i64 (cc : Int)] W (GivesS W (sec cc)) := fun W => sector_any cc (in64_iff.2 (by omega)) W
      have hs8 := sec_size cc
      have k1 : (k : Int) < (ls.length : Int) := by omega
      have k2 : (k : Int) < 60 := by omega
      obtain ⟨L, V, hM, hL5, hVk⟩ := hG d hd3
      clear hcc hccb hd hq haa hcI hIn vcell hc hD1 hD2 hn1 hn2
      generalize sec cc = sq at *
      go_wp2_with (fail)
      refine (cp _).mono ?_
      rintro e w4 ⟨rfl, rfl⟩
      clear cc0 cp
      go_wp2_with (fail)
      refine (cS _).mono ?_
      rintro e w5 ⟨rfl, b5⟩
      have hB2 := hB.after b5
      clear hB b5
      go_wp2_with (fail)
      refine (rs_write hB2 d hd3 (by omega) (by omega) (by omega) hM a (by omega) sq hs8 (by have := hVk a; omega)).mono ?_
      rintro e w6 ⟨S6, rfl, _, hB3⟩
      have hB4 : RS w1 S6 w6 kk 3 (upd M d ⟨false, L, updZ V (a : Int) (V (a : Int) ++ [sq])⟩) false ((k + 1 : Nat) : Int) 0 := by
        have e : ((k + 1 : Nat) : Int) = (k : Int) + 1 := by omega
        rw [e]; rw [nxt0] at hB3; exact hB3
      have hG4 := hG.write d hL5 hVk (a : Int) sq
      generalize upd M d ⟨false, L, updZ V (a : Int) (V (a : Int) ++ [sq])⟩ = M4 at *
      clear hB2 hB3 hM hL5 hVk hG
      go_wp2_with (fail)
      go_roundw
      case rel => exact ⟨k + 1, S6, M4, by omega, by omega, by go_num, hB4, hG4⟩
      case measure => simp [intOf]; omega
    · have hcd : ((k : Int) < (ls.length : Int) ∧ ¬ ((k : Int) < 60)) ∨ ¬ ((k : Int) < (ls.length : Int)) := by omega
      obtain ⟨C, hC, hC5⟩ := hG.crash l1
      have cR1 := rs_restart hB v1 l1 (hD1.below hB.b) (hD1.old hB.f) hn1 (fun i hi z => by obtain ⟨L, V, h1, _, h3⟩ := hG i hi; rw [h1]; have := h3 z; show (V z).length ≤ _; omega)
      have hSf := hB.f
      clear hIn hlt hR1 hB
      rcases hcd with ⟨kx, k50⟩ | kx
      · skip
        go_wp2_with (fail)
        refine cR1.mono ?_
        rintro e w3 ⟨rfl, _, hB0⟩
        have hB := hB0.congr (M' := liveM C) (fun i hi => (hC i hi).symm)
        clear cR1 hB0 hC hG
        go_wp2_with (fail)
        go_loopw [13, 12] (fun t vx wr => ∃ (j : Nat) (u : Value) (X : Nat → Value) (D : Nat → List ByteArray), u = vx ∧ j ≤ 3 ∧ t = .int .i64 (j : Int) ∧ RS w1 S wr kk 3 (liveM C) false (k : Int) 0 ∧ Was wr w1.heap.size S j u X D ∧ ∀ i, i < j → D i = C i ∧ ∃ x, X i = .slice (some ⟨x, 0, none⟩) 5 5) (fun t _ _ => 3 - (intOf t).toNat)
        case atStart => exact ⟨0, _, fun _ => .nilFunc, fun _ => [], rfl, by omega, rfl, hB, Was.nil _ _ _ _ _, fun i hi => absurd hi (Nat.not_lt_zero _)⟩
        case round =>
          clear hB
          obtain ⟨j, u, X, D, rfl, hj, rfl, hB, hW, hX⟩ := hrel
          by_cases hlt : j < 3
          · have j1 : (j : Int) < 3 := by omega
            have cI := rs_image hB j hlt (L := C j) (V := noV) rfl
            go_wp2_with (fail)
            refine cI.mono ?_
            rintro e w5 ⟨x, rfl, b5, o5⟩
            have hB2 := hB.after b5
            rw [hC5 j hlt] at o5 ⊢
            obtain ⟨_, w6, ⟨pa, pn, pc, rfl⟩, hap, hW2, hb6, hk6⟩ := hW.push hB.b.size (by omega) b5 o5 hB.lt
            have hB3 := hB2.other hb6 hk6
            have hX2 : ∀ i, i < j + 1 → upd D j (C j) i = C i ∧ ∃ x', upd X j (.slice (some ⟨x, 0, none⟩) 5 5) i = .slice (some ⟨x', 0, none⟩) 5 5 := fun i hi => by
              by_cases e : i = j
              · subst e; rw [upd_same, upd_same]; exact ⟨rfl, x, rfl⟩
              · rw [upd_other _ _ _ _ e, upd_other _ _ _ _ e]; exact hX i (by omega)
            have hrel2 := Lib.hid (And.intro hB3 (And.intro hW2 hX2))
            clear hB hB2 hB3 hW hW2 hX hX2 b5 o5 hb6 hk6 cI
            go_wp2_with (at_builtin; refine wpList_append_run hap _ _ rfl rfl rfl rfl rfl ?_)
            go_roundw
            case rel => exact ⟨j + 1, _, _, _, rfl, by omega, by go_num, hrel2.out⟩
            case measure => simp [intOf]; omega
          · have hj3 : j = 3 := by omega
            have j3 : ¬ ((j : Int) < 3) := by omega
            have cR2 := rs_restart hB v2 l2 (hD2.below hB.b) (hD2.old hB.f) hn2 (fun i hi z => by show (noV z).length ≤ _; simp [noV])
            have hW3 : Was wr w1.heap.size S 3 u X D := by rw [← hj3]; exact hW
            obtain ⟨y, yc, rfl, _, _⟩ := hW3.o.form (by rw [rowV_len]; omega)
            rw [rowV_len] at hW3
            have hX3 : ∀ i, i < 3 → D i = C i ∧ ∃ x, X i = .slice (some ⟨x, 0, none⟩) 5 5 := fun i hi => hX i (by omega)
            clear hB hW hX hlt hj hj3
            rw [rowV_len]
            go_wp2_with (fail)
            refine cR2.mono ?_
            rintro e w5 ⟨rfl, hs5, hB50⟩
            have hB5 := hB50.congr (M' := liveM C) (fun i _ => (live_crash C l2 i).symm)
            have hW5 := hW3.step hs5
            clear hB50 hW3 hs5 cR2 j3
            go_wp2_with (fail)
            go_loopw [14] (fun t wr => ∃ (j : Nat) (S : Nat → Prop) (A : Int), j ≤ 3 ∧ t = .int .i64 (j : Int) ∧ (0 ≤ A ∧ A ≤ 100 + 2 * (j : Int)) ∧ RS w1 S wr kk 3 (liveM (stepC C j)) false A 0 ∧ Was wr w1.heap.size S 3 (.slice (some ⟨y, 0, none⟩) 3 yc) X D) (fun t _ => 3 - (intOf t).toNat)
            case atStart => exact ⟨0, S, _, by omega, rfl, ⟨by omega, by omega⟩, hB5.congr (fun i _ => live_congr (stepC_ge C (by omega))), hW5⟩
            case round =>
              clear hB5 hW5
              obtain ⟨j, S2, A, hj, rfl, hA, hB, hW⟩ := hrel
              by_cases hlt : j < 3
              · have j1 : (j : Int) < 3 := by omega
                have cS : ∀ W, Calls Try.prog 13 #[.int .i64 (j : Int)] W (GivesS W (sec j)) := fun W => sector_any j (in64_iff.2 (by omega)) W
                have hs8 := sec_size (j : Int)
                have hC5j := hC5 j hlt
                obtain ⟨sq, hsq⟩ : ∃ sq, sec (j : Int) = sq := ⟨_, rfl⟩
                rw [hsq] at cS hs8
                go_wp2_with (fail)
                refine (cS _).mono ?_
                rintro e w6 ⟨rfl, b6⟩
                have hB6 := hB.after b6
                have hW6 := hW.after b6
                have hM6 : liveM (stepC C j) j = ⟨false, C j, noV⟩ := live_congr (g := C) (stepC_ge C (Nat.lt_irrefl j))
                have cW := rs_write hB6 j hlt (by omega) (by omega) (by omega) hM6 0 (by omega) sq hs8 (by simp [noV])
                clear hB hW b6 hB6
                go_wp2_with (fail)
                refine cW.mono ?_
                rintro e w7 ⟨S7, rfl, hs7, hB7⟩
                have hW7 := hW6.step hs7
                have cF := rs_flush hB7 j hlt (by omega) (by rw [nxt0]; omega) (by rw [nxt0]; omega) (upd_same _ _ _) (fun z => Nat.le_trans (updV9_le (V := noV) (k := 0) (fun z => by simp [noV]) _ _ z) (by omega))
                rw [flush_one _ _ (by omega)] at cF
                clear cW hW6 hs7
                go_wp2_with (fail)
                refine cF.mono ?_
                rintro e w8 ⟨S8, rfl, hs8', hB8⟩
                have hW8 := hW7.step hs8'
                have hB9 : RS w1 S8 w8 kk 3 (liveM (stepC C (j + 1))) false (A + 1 + 1) 0 := by
                  rw [nxt0, nxt0] at hB8
                  refine hB8.congr (fun i _ => ?_)
                  by_cases e : i = j
                  · subst e
                    rw [upd_same]
                    show liveM (stepC C (i + 1)) i = ⟨false, (C i).set 0 sq, noV⟩
                    unfold liveM
                    rw [stepC_lt C (by omega), hsq]
                  · rw [upd_other _ _ _ _ e, upd_other _ _ _ _ e]
                    refine live_congr ?_
                    by_cases e2 : i < j
                    · rw [stepC_lt C e2, stepC_lt C (by omega)]
                    · rw [stepC_ge C e2, stepC_ge C (by omega)]
                clear cF hB7 hB8 hs8' hW7 hM6
                go_wp2_with (fail)
                go_roundw
                case rel => exact ⟨j + 1, S8, A + 1 + 1, by omega, by go_num, ⟨by omega, by omega⟩, hB9, hW8⟩
                case measure => simp [intOf]; omega
              · have hj3 : j = 3 := by omega
                have j3 : ¬ ((j : Int) < 3) := by omega
                have hB' := hB.congr (M' := liveM fun i => (C i).set 0 (sec (i : Int))) (fun i hi => live_congr (stepC_lt C (by omega)).symm)
                have cR3 := rs_restart hB' v2 l2 (hD2.below hB'.b) (hD2.old hB'.f) hn2 (fun i hi z => by show (noV z).length ≤ _; simp [noV])
                clear hB hlt hj hj3
                go_wp2_with (fail)
                refine cR3.mono ?_
                rintro e w5 ⟨rfl, hs5, hB50⟩
                have hB5 := hB50.congr (M' := liveM fun i => (C i).set 0 (sec (i : Int))) (fun i _ => (live_crash _ l2 i).symm)
                have hW5 := hW.step hs5
                clear hB50 hW hs5 cR3 hB' j3 hD1 hD2
                go_wp2_with (fail)
                go_loopw [15, 16] (fun t _ wr => ∃ (j : Nat), j ≤ 3 ∧ t = .int .i64 (j : Int) ∧ RS w1 S2 wr kk 3 (liveM fun i => (C i).set 0 (sec (i : Int))) false A 0 ∧ Was wr w1.heap.size S2 3 (.slice (some ⟨y, 0, none⟩) 3 yc) X D) (fun t _ _ => 3 - (intOf t).toNat)
                case atStart => exact ⟨0, by omega, rfl, hB5, hW5⟩
                case round =>
                  clear hB5 hW5
                  obtain ⟨j, hj, rfl, hB, hW⟩ := hrel
                  by_cases hlt : j < 3
                  · have j1 : (j : Int) < 3 := by omega
                    have cI := rs_image hB j hlt (L := (C j).set 0 (sec (j : Int))) (V := noV) rfl
                    have cS := fun W => sector_q9 (j : Int) (in64_iff.2 (by omega)) W
                    have hC5j := hC5 j hlt
                    obtain ⟨sq, hsq⟩ : ∃ sq, sec (j : Int) = sq := ⟨_, rfl⟩
                    rw [hsq] at cS cI
                    obtain ⟨hDj, xj, hXj⟩ := hX3 j hlt
                    go_wp2_with (fail)
                    refine cI.mono ?_
                    rintro e w7 ⟨x, rfl, b7, o7⟩
                    have hlE : ((C j).set 0 sq).length = 5 := by rw [List.length_set]; exact hC5j
                    rw [hlE] at o7 ⊢
                    have hB7 := hB.after b7
                    have hW7 := hW.after b7
                    have cy := hW7.cell hlt
                    have oj := hW7.r j hlt
                    rw [hXj] at cy oj
                    rw [hDj] at oj
                    have cx0 := o7.cell (i := 0) (by rw [List.length_map, hlE]; omega)
                    have e0 : (((C j).set 0 sq).map Value.string).getD 0 .nilFunc = .string sq := by
                      rw [List.getD_eq_getElem?_getD, List.getElem?_map, List.getElem?_set, if_pos rfl, if_pos (by omega)]; rfl
                    rw [e0] at cx0
                    have hxl := o7.lt.2
                    have hyl := (hW7.o.o.lt y rfl).2
                    have hdr : ((C j).set 0 sq).drop 1 = (C j).drop 1 := List.drop_set_of_lt (by omega)
                    have r1 : Reads w7 (.slice (some ⟨x, 1, none⟩) 4 4) (((C j).drop 1).map .string) := by rw [← hdr]; exact o7.tail1 hlE
                    have r2 : Reads w7 (.slice (some ⟨xj, 1, none⟩) 4 4) (((C j).drop 1).map .string) := oj.tail1 hC5j
                    have sl1 := fun W => slice_tail1 x W
                    have sl2 := fun W => slice_tail1 xj W
                    have hSm : ∀ W, Below w7.heap.size w7 W → Calls Try.prog 36 #[.slice (some ⟨x, 1, none⟩) 4 4, .slice (some ⟨xj, 1, none⟩) 4 4] W fun e w' => e = .returned (.bool true) ∧ Below W.heap.size W w' := fun W hb => by
                      have := same_any _ _ _ _ W (r1.below hb) (r2.below hb) (by simp; omega) (by simp; omega)
                      rw [decide_eq_true rfl] at this
                      exact this.mono fun e w' ⟨he, hb, _⟩ => ⟨he, hb⟩
                    have hrel2 : ∀ W, Below w7.heap.size w7 W → RS w1 S2 W kk 3 (liveM fun i => (C i).set 0 (sec (i : Int))) false A 0 ∧ Was W w1.heap.size S2 3 (.slice (some ⟨y, 0, none⟩) 3 yc) X D := fun W hb => ⟨hB7.after hb, hW7.after hb⟩
                    have hrel3 := Lib.hid hrel2
                    clear hB hW hB7 hW7 oj o7 hrel2 r1 r2 hdr e0 hlE cI hDj hXj b7
                    go_wp2_with (fail)
                    refine wp_region_cls (Below w7.heap.size w7) (by kernel_rfl) (by kernel_rfl) (Below.refl _ _).drew ?_
                    intro Z f hne hD hE
                    have q1 : ∀ z, (f z).cell? ⟨y, j, none⟩ = some (.slice (some ⟨xj, 0, none⟩) 5 5) := fun z => (clsCell hD z _ _ hyl).trans cy
                    have q2 : ∀ z, (f z).cell? ⟨x, 0, none⟩ = some (.string sq) := fun z => (clsCell hD z _ _ hxl).trans cx0
                    iterate 30 (go_big_quiet_step (first | (go_at_call 13; with_reducible exact toQB hD hE _ (cS _)) | (go_at_call 36; with_reducible exact toQB hD hE _ (hSm _ (hD _)))))
                    refine wpQuiet_nil ?_
                    intro _ hw'
                    obtain ⟨zq, hw''⟩ := hw'
                    subst hw''
                    have hrel4 := Lib.hid (hrel3.out _ (hD zq))
                    generalize f zq = wz at *
                    clear q1 q2 hE hD hrel3 hSm cy cx0
                    go_wp2_with (fail)
                    go_roundw
                    case rel => exact ⟨j + 1, by omega, by go_num, hrel4.out⟩
                    case measure => simp [intOf]; omega
                  · obtain rfl : j = 3 := by omega
                    have hfin := Lib.hid (hb1H.out.trans (hB.b.mono hb1H.out.size))
                    clear hB hW hj hlt
                    go_wp2_with (fail)
                    go_ret
                    exact ⟨rfl, hfin.out⟩
      · skip
        go_wp2_with (fail)
        refine cR1.mono ?_
        rintro e w3 ⟨rfl, _, hB0⟩
        have hB := hB0.congr (M' := liveM C) (fun i hi => (hC i hi).symm)
        clear cR1 hB0 hC hG
        go_wp2_with (fail)
        go_loopw [13, 12] (fun t vx wr => ∃ (j : Nat) (u : Value) (X : Nat → Value) (D : Nat → List ByteArray), u = vx ∧ j ≤ 3 ∧ t = .int .i64 (j : Int) ∧ RS w1 S wr kk 3 (liveM C) false (k : Int) 0 ∧ Was wr w1.heap.size S j u X D ∧ ∀ i, i < j → D i = C i ∧ ∃ x, X i = .slice (some ⟨x, 0, none⟩) 5 5) (fun t _ _ => 3 - (intOf t).toNat)
        case atStart => exact ⟨0, _, fun _ => .nilFunc, fun _ => [], rfl, by omega, rfl, hB, Was.nil _ _ _ _ _, fun i hi => absurd hi (Nat.not_lt_zero _)⟩
        case round =>
          clear hB
          obtain ⟨j, u, X, D, rfl, hj, rfl, hB, hW, hX⟩ := hrel
          by_cases hlt : j < 3
          · have j1 : (j : Int) < 3 := by omega
            have cI := rs_image hB j hlt (L := C j) (V := noV) rfl
            go_wp2_with (fail)
            refine cI.mono ?_
            rintro e w5 ⟨x, rfl, b5, o5⟩
            have hB2 := hB.after b5
            rw [hC5 j hlt] at o5 ⊢
            obtain ⟨_, w6, ⟨pa, pn, pc, rfl⟩, hap, hW2, hb6, hk6⟩ := hW.push hB.b.size (by omega) b5 o5 hB.lt
            have hB3 := hB2.other hb6 hk6
            have hX2 : ∀ i, i < j + 1 → upd D j (C j) i = C i ∧ ∃ x', upd X j (.slice (some ⟨x, 0, none⟩) 5 5) i = .slice (some ⟨x', 0, none⟩) 5 5 := fun i hi => by
              by_cases e : i = j
              · subst e; rw [upd_same, upd_same]; exact ⟨rfl, x, rfl⟩
              · rw [upd_other _ _ _ _ e, upd_other _ _ _ _ e]; exact hX i (by omega)
            have hrel2 := Lib.hid (And.intro hB3 (And.intro hW2 hX2))
            clear hB hB2 hB3 hW hW2 hX hX2 b5 o5 hb6 hk6 cI
            go_wp2_with (at_builtin; refine wpList_append_run hap _ _ rfl rfl rfl rfl rfl ?_)
            go_roundw
            case rel => exact ⟨j + 1, _, _, _, rfl, by omega, by go_num, hrel2.out⟩
            case measure => simp [intOf]; omega
          · have hj3 : j = 3 := by omega
            have j3 : ¬ ((j : Int) < 3) := by omega
            have cR2 := rs_restart hB v2 l2 (hD2.below hB.b) (hD2.old hB.f) hn2 (fun i hi z => by show (noV z).length ≤ _; simp [noV])
            have hW3 : Was wr w1.heap.size S 3 u X D := by rw [← hj3]; exact hW
            obtain ⟨y, yc, rfl, _, _⟩ := hW3.o.form (by rw [rowV_len]; omega)
            rw [rowV_len] at hW3
            have hX3 : ∀ i, i < 3 → D i = C i ∧ ∃ x, X i = .slice (some ⟨x, 0, none⟩) 5 5 := fun i hi => hX i (by omega)
            clear hB hW hX hlt hj hj3
            rw [rowV_len]
            go_wp2_with (fail)
            refine cR2.mono ?_
            rintro e w5 ⟨rfl, hs5, hB50⟩
            have hB5 := hB50.congr (M' := liveM C) (fun i _ => (live_crash C l2 i).symm)
            have hW5 := hW3.step hs5
            clear hB50 hW3 hs5 cR2 j3
            go_wp2_with (fail)
            go_loopw [14] (fun t wr => ∃ (j : Nat) (S : Nat → Prop) (A : Int), j ≤ 3 ∧ t = .int .i64 (j : Int) ∧ (0 ≤ A ∧ A ≤ 100 + 2 * (j : Int)) ∧ RS w1 S wr kk 3 (liveM (stepC C j)) false A 0 ∧ Was wr w1.heap.size S 3 (.slice (some ⟨y, 0, none⟩) 3 yc) X D) (fun t _ => 3 - (intOf t).toNat)
            case atStart => exact ⟨0, S, _, by omega, rfl, ⟨by omega, by omega⟩, hB5.congr (fun i _ => live_congr (stepC_ge C (by omega))), hW5⟩
            case round =>
              clear hB5 hW5
              obtain ⟨j, S2, A, hj, rfl, hA, hB, hW⟩ := hrel
              by_cases hlt : j < 3
              · have j1 : (j : Int) < 3 := by omega
                have cS : ∀ W, Calls Try.prog 13 #[.int .i64 (j : Int)] W (GivesS W (sec j)) := fun W => sector_any j (in64_iff.2 (by omega)) W
                have hs8 := sec_size (j : Int)
                have hC5j := hC5 j hlt
                obtain ⟨sq, hsq⟩ : ∃ sq, sec (j : Int) = sq := ⟨_, rfl⟩
                rw [hsq] at cS hs8
                go_wp2_with (fail)
                refine (cS _).mono ?_
                rintro e w6 ⟨rfl, b6⟩
                have hB6 := hB.after b6
                have hW6 := hW.after b6
                have hM6 : liveM (stepC C j) j = ⟨false, C j, noV⟩ := live_congr (g := C) (stepC_ge C (Nat.lt_irrefl j))
                have cW := rs_write hB6 j hlt (by omega) (by omega) (by omega) hM6 0 (by omega) sq hs8 (by simp [noV])
                clear hB hW b6 hB6
                go_wp2_with (fail)
                refine cW.mono ?_
                rintro e w7 ⟨S7, rfl, hs7, hB7⟩
                have hW7 := hW6.step hs7
                have cF := rs_flush hB7 j hlt (by omega) (by rw [nxt0]; omega) (by rw [nxt0]; omega) (upd_same _ _ _) (fun z => Nat.le_trans (updV9_le (V := noV) (k := 0) (fun z => by simp [noV]) _ _ z) (by omega))
                rw [flush_one _ _ (by omega)] at cF
                clear cW hW6 hs7
                go_wp2_with (fail)
                refine cF.mono ?_
                rintro e w8 ⟨S8, rfl, hs8', hB8⟩
                have hW8 := hW7.step hs8'
                have hB9 : RS w1 S8 w8 kk 3 (liveM (stepC C (j + 1))) false (A + 1 + 1) 0 := by
                  rw [nxt0, nxt0] at hB8
                  refine hB8.congr (fun i _ => ?_)
                  by_cases e : i = j
                  · subst e
                    rw [upd_same]
                    show liveM (stepC C (i + 1)) i = ⟨false, (C i).set 0 sq, noV⟩
                    unfold liveM
                    rw [stepC_lt C (by omega), hsq]
                  · rw [upd_other _ _ _ _ e, upd_other _ _ _ _ e]
                    refine live_congr ?_
                    by_cases e2 : i < j
                    · rw [stepC_lt C e2, stepC_lt C (by omega)]
                    · rw [stepC_ge C e2, stepC_ge C (by omega)]
                clear cF hB7 hB8 hs8' hW7 hM6
                go_wp2_with (fail)
                go_roundw
                case rel => exact ⟨j + 1, S8, A + 1 + 1, by omega, by go_num, ⟨by omega, by omega⟩, hB9, hW8⟩
                case measure => simp [intOf]; omega
              · have hj3 : j = 3 := by omega
                have j3 : ¬ ((j : Int) < 3) := by omega
                have hB' := hB.congr (M' := liveM fun i => (C i).set 0 (sec (i : Int))) (fun i hi => live_congr (stepC_lt C (by omega)).symm)
                have cR3 := rs_restart hB' v2 l2 (hD2.below hB'.b) (hD2.old hB'.f) hn2 (fun i hi z => by show (noV z).length ≤ _; simp [noV])
                clear hB hlt hj hj3
                go_wp2_with (fail)
                refine cR3.mono ?_
                rintro e w5 ⟨rfl, hs5, hB50⟩
                have hB5 := hB50.congr (M' := liveM fun i => (C i).set 0 (sec (i : Int))) (fun i _ => (live_crash _ l2 i).symm)
                have hW5 := hW.step hs5
                clear hB50 hW hs5 cR3 hB' j3 hD1 hD2
                go_wp2_with (fail)
                go_loopw [15, 16] (fun t _ wr => ∃ (j : Nat), j ≤ 3 ∧ t = .int .i64 (j : Int) ∧ RS w1 S2 wr kk 3 (liveM fun i => (C i).set 0 (sec (i : Int))) false A 0 ∧ Was wr w1.heap.size S2 3 (.slice (some ⟨y, 0, none⟩) 3 yc) X D) (fun t _ _ => 3 - (intOf t).toNat)
                case atStart => exact ⟨0, by omega, rfl, hB5, hW5⟩
                case round =>
                  clear hB5 hW5
                  obtain ⟨j, hj, rfl, hB, hW⟩ := hrel
                  by_cases hlt : j < 3
                  · have j1 : (j : Int) < 3 := by omega
                    have cI := rs_image hB j hlt (L := (C j).set 0 (sec (j : Int))) (V := noV) rfl
                    have cS := fun W => sector_q9 (j : Int) (in64_iff.2 (by omega)) W
                    have hC5j := hC5 j hlt
                    obtain ⟨sq, hsq⟩ : ∃ sq, sec (j : Int) = sq := ⟨_, rfl⟩
                    rw [hsq] at cS cI
                    obtain ⟨hDj, xj, hXj⟩ := hX3 j hlt
                    go_wp2_with (fail)
                    refine cI.mono ?_
                    rintro e w7 ⟨x, rfl, b7, o7⟩
                    have hlE : ((C j).set 0 sq).length = 5 := by rw [List.length_set]; exact hC5j
                    rw [hlE] at o7 ⊢
                    have hB7 := hB.after b7
                    have hW7 := hW.after b7
                    have cy := hW7.cell hlt
                    have oj := hW7.r j hlt
                    rw [hXj] at cy oj
                    rw [hDj] at oj
                    have cx0 := o7.cell (i := 0) (by rw [List.length_map, hlE]; omega)
                    have e0 : (((C j).set 0 sq).map Value.string).getD 0 .nilFunc = .string sq := by
                      rw [List.getD_eq_getElem?_getD, List.getElem?_map, List.getElem?_set, if_pos rfl, if_pos (by omega)]; rfl
                    rw [e0] at cx0
                    have hxl := o7.lt.2
                    have hyl := (hW7.o.o.lt y rfl).2
                    have hdr : ((C j).set 0 sq).drop 1 = (C j).drop 1 := List.drop_set_of_lt (by omega)
                    have r1 : Reads w7 (.slice (some ⟨x, 1, none⟩) 4 4) (((C j).drop 1).map .string) := by rw [← hdr]; exact o7.tail1 hlE
                    have r2 : Reads w7 (.slice (some ⟨xj, 1, none⟩) 4 4) (((C j).drop 1).map .string) := oj.tail1 hC5j
                    have sl1 := fun W => slice_tail1 x W
                    have sl2 := fun W => slice_tail1 xj W
                    have hSm : ∀ W, Below w7.heap.size w7 W → Calls Try.prog 36 #[.slice (some ⟨x, 1, none⟩) 4 4, .slice (some ⟨xj, 1, none⟩) 4 4] W fun e w' => e = .returned (.bool true) ∧ Below W.heap.size W w' := fun W hb => by
                      have := same_any _ _ _ _ W (r1.below hb) (r2.below hb) (by simp; omega) (by simp; omega)
                      rw [decide_eq_true rfl] at this
                      exact this.mono fun e w' ⟨he, hb, _⟩ => ⟨he, hb⟩
                    have hrel2 : ∀ W, Below w7.heap.size w7 W → RS w1 S2 W kk 3 (liveM fun i => (C i).set 0 (sec (i : Int))) false A 0 ∧ Was W w1.heap.size S2 3 (.slice (some ⟨y, 0, none⟩) 3 yc) X D := fun W hb => ⟨hB7.after hb, hW7.after hb⟩
                    have hrel3 := Lib.hid hrel2
                    clear hB hW hB7 hW7 oj o7 hrel2 r1 r2 hdr e0 hlE cI hDj hXj b7
                    go_wp2_with (fail)
                    refine wp_region_cls (Below w7.heap.size w7) (by kernel_rfl) (by kernel_rfl) (Below.refl _ _).drew ?_
                    intro Z f hne hD hE
                    have q1 : ∀ z, (f z).cell? ⟨y, j, none⟩ = some (.slice (some ⟨xj, 0, none⟩) 5 5) := fun z => (clsCell hD z _ _ hyl).trans cy
                    have q2 : ∀ z, (f z).cell? ⟨x, 0, none⟩ = some (.string sq) := fun z => (clsCell hD z _ _ hxl).trans cx0
                    iterate 30 (go_big_quiet_step (first | (go_at_call 13; with_reducible exact toQB hD hE _ (cS _)) | (go_at_call 36; with_reducible exact toQB hD hE _ (hSm _ (hD _)))))
                    refine wpQuiet_nil ?_
                    intro _ hw'
                    obtain ⟨zq, hw''⟩ := hw'
                    subst hw''
                    have hrel4 := Lib.hid (hrel3.out _ (hD zq))
                    generalize f zq = wz at *
                    clear q1 q2 hE hD hrel3 hSm cy cx0
                    go_wp2_with (fail)
                    go_roundw
                    case rel => exact ⟨j + 1, by omega, by go_num, hrel4.out⟩
                    case measure => simp [intOf]; omega
                  · obtain rfl : j = 3 := by omega
                    have hfin := Lib.hid (hb1H.out.trans (hB.b.mono hb1H.out.size))
                    clear hB hW hj hlt
                    go_wp2_with (fail)
                    go_ret
                    exact ⟨rfl, hfin.out⟩
end Go.Proofs.Ytomgbnbkfkjifaa

