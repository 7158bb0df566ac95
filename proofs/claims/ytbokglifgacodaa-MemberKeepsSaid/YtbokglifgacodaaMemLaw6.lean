/- member: MemberKeeps. -/
import Derived.Test.YtbokglifgacodaaMemX2
import Derived.Test.YtbokglifgacodaaMemLaw5
namespace Go.Proofs.Ytbokglifgacodaa
open Go.RowKit
set_option linter.unusedVariables false
set_option linter.unusedSimpArgs false

theorem strs_isX : ∃ i, Try.prog.info? 47 = some i ∧ i.zero = some (.slice none 0 0) ∧ i.size = 1 ∧ i.bytes = 24 := (cont_gen (P := Try.prog) (t := 47) (c := .slice none 0 0) (n := 1) (k := 24) (by kernel_rfl)).2
/-- As far as k the sectors that are flushed. -/
def fl8 (L : List ByteArray) (V : Int → List ByteArray) (k : Nat) : List ByteArray := flL L V fun z => decide (z < (k : Int))
theorem fl8_zero (L : List ByteArray) (V : Int → List ByteArray) : fl8 L V 0 = L := flL_none L V _ fun i _ => by simp
theorem fl8_all (L : List ByteArray) (V : Int → List ByteArray) (k : Nat) (hk : L.length ≤ k) : fl8 L V k = flush L V := flL_same L V _ fun i hi _ => by simp; omega
theorem fl8_set (L : List ByteArray) (V : Int → List ByteArray) (k : Nat) (hk : k < L.length) (s : ByteArray) (hs : lastOf (V (k : Int)) (L.getD k zero128) = s) : (fl8 L V k).set k s = fl8 L V (k + 1) :=
  flL_set L V _ _ k hk s hs (by simp; omega) (fun i hi hl => by congr 1; simp; omega)
theorem fl8_nil (L : List ByteArray) (V : Int → List ByteArray) (k : Nat) (hv : V (k : Int) = []) : fl8 L V (k + 1) = fl8 L V k := by
  unfold fl8 flL
  apply List.map_congr_left
  intro i hi
  by_cases e : i = k
  · subst e
    rw [hv, lastOf_nil]; simp
  · have : decide ((i : Int) < ((k + 1 : Nat) : Int)) = decide ((i : Int) < (k : Int)) := by congr 1; simp; omega
    simp only [this]
theorem rep_of (l : List ByteArray) (h : l.length = 8) (hz : ∀ i, i < 8 → l.getD i zero128 = zero128) : l = List.replicate 8 zero128 := by
  apply List.ext_getElem?
  intro i
  by_cases hi : i < 8
  · have := hz i hi
    rw [List.getD_eq_getElem?_getD, List.getElem?_eq_getElem (by omega)] at this
    rw [List.getElem?_eq_getElem (by omega), List.getElem?_replicate, if_pos hi]
    exact congrArg some this
  · rw [List.getElem?_eq_none (by omega), List.getElem?_eq_none (by simp; omega)]
set_option maxRecDepth 100000 in
set_option maxHeartbeats 4000000 in
theorem keeps_walk (v : Value) (ls : List Int) (vc : Value) (ch : List Int) (w : World) (hR : Reads w v (ls.map (.int .i64))) (hF : ∀ n ∈ ls, (Lit.int .i64 n).wf = true)
    (hC : Reads w vc (ch.map (.int .i64))) (hCF : ∀ n ∈ ch, (Lit.int .i64 n).wf = true) (hCn : ch.length ≤ 140737488355328) :
    Calls Try.prog 4 #[v, vc] w (Ends w true) := by
  have cN : ∀ W, Calls Try.prog 11 #[.int .i64 8] W fun e w' => ∃ S m g bp cap, e = .returned (.tuple #[.pointer (some ⟨m, 0, none⟩), .int .i64 0]) ∧ MS W S w' m g bp cap false (List.replicate 8 zero128) noV := fun W => ms_new 8 W (by omega) (by omega)
  have hIn : ∀ k, k < ls.length → In64 (ls.getD k 0) := fun k hk => by
    rw [List.getD_eq_getElem?_getD, List.getElem?_eq_getElem hk]; exact hF _ (List.getElem_mem hk)
  have hlenv := fun W => hR.len_run (P := Try.prog) Try.underlying31 3 W
  rw [List.length_map] at hlenv
  clear hF
  go_enter Try.func4, Try.ntmps4
  go_wp2_with (fail)
  refine (awake_any _).mono ?_
  rintro e w1 ⟨rfl, b1⟩
  have hR1 := hR.below b1
  have hC1 := hC.below b1
  go_wp2_with (fail)
  refine (cN _).mono ?_
  rintro e w2 ⟨S1, m, g, bp, cap, rfl, h1⟩
  have hb1H := Lib.hid b1
  clear b1 cN hR hC
  obtain ⟨si, s1, s2, s3, s4⟩ := str_isX
  obtain ⟨ti, t1, t2, t3, t4⟩ := strs_isX
  obtain ⟨w3, hmk, hO, hb3⟩ := Own.make_run (P := Try.prog) (T := 47) Try.underlying47 s1 s2 s3 s4 rfl w2 8 (by omega) (by omega)
  obtain ⟨w4, hmk2, hO2, hb4⟩ := Own.make_run (P := Try.prog) (T := 50) Try.underlying50 t1 t2 t3 t4 rfl w3 8 (by omega) (by omega)
  obtain ⟨x, hx⟩ : ∃ x, w2.heap.size = x := ⟨_, rfl⟩
  obtain ⟨y, hy⟩ : ∃ y, w3.heap.size = y := ⟨_, rfl⟩
  rw [hx] at hmk hO
  rw [hy] at hmk2 hO2
  replace hmk : (Instr.makeSlice 47 (.int .i64 8) (.int .i64 8)).run Try.prog w2 = .ok (.slice (some ⟨x, 0, none⟩) 8 8) w3 := hmk
  replace hmk2 : (Instr.makeSlice 50 (.int .i64 8) (.int .i64 8)).run Try.prog w3 = .ok (.slice (some ⟨y, 0, none⟩) 8 8) w4 := hmk2
  have hxl := hO.lt
  have h3 := h1.after hb3
  have h4 := h3.after hb4
  have hsb : SB w4 w1.heap.size S1 x y (List.replicate 8 ⟨#[]⟩) (fun _ => []) := by
    have hx1 : w1.heap.size ≤ x := by rw [← hx]; exact h1.b.size
    have hy1 : w1.heap.size ≤ y := by rw [← hy]; exact h3.b.size
    refine ⟨⟨fun _ => .slice none 0 0, ?_, fun i _ => Own.nil _ _ _, fun i j _ _ _ => Apart.nil _, fun i _ k hk => by cases hk⟩, (hO.after hb4).mono hx1, rfl, fun hs => by have := h1.lt x hs; omega, fun hs => by have := h3.lt y hs; omega, by omega⟩
    rw [← rowV_rep]
    exact hO2.mono hy1
  clear h1 h3 hb3 hb4 hO hO2 hx hy hxl s1 s2 s3 s4 t1 t2 t3 t4
  go_wp2_with (fail)
  go_loopw [10] (fun t wr => ∃ (k : Nat) (l : List ByteArray), k ≤ 8 ∧ t = .int .i64 (k : Int) ∧ MS w1 S1 wr m g bp cap false (List.replicate 8 zero128) noV ∧ SB wr w1.heap.size S1 x y l (fun _ => []) ∧ ∀ i, i < k → l.getD i zero128 = zero128) (fun t _ => 8 - (intOf t).toNat)
  case atStart => exact ⟨0, _, by omega, rfl, h4, hsb, fun i hi => absurd hi (Nat.not_lt_zero _)⟩
  case round =>
    clear h4 hsb hmk hmk2
    obtain ⟨k, l, hk, rfl, hB, hX, hl⟩ := hrel
    by_cases hlt : k < 8
    · have k1 : (k : Int) < 8 := by omega
      obtain ⟨wb, hmk, hr, hb, _⟩ := BRow.make_run wr 128 (by omega)
      replace hmk : (Instr.makeSlice 51 (.int .i64 128) (.int .i64 128)).run Try.prog wr = .ok (.slice (some ⟨wr.heap.size, 0, none⟩) 128 128) wb := hmk
      have hstr := hr.str 128 128 (by simp)
      have hX2 := hX.after hb
      have hB2 := hB.after hb
      have c0 := hX2.cx hlt
      have f0 := hX2.fx k
      have hn := hX.n
      have hX3 := hX2.setX (i := k) zero128
      have hB3 := hB2.setO hX2.from.1 hX2.sx k (.string zero128)
      have hl2 : ∀ i, i < k + 1 → (l.set k zero128).getD i zero128 = zero128 := fun i hi => by
        rw [List.getD_eq_getElem?_getD, List.getElem?_set]
        by_cases e : k = i
        · rw [if_pos e, if_pos (by omega)]; rfl
        · rw [if_neg e, ← List.getD_eq_getElem?_getD]; exact hl i (by omega)
      have hrel2 := Lib.hid (And.intro hB3 (And.intro hX3 hl2))
      clear hX hX2 hB hB2 hb hr hX3 hB3 hl hl2 hn
      generalize l.getD k zero128 = old at c0
      have hz : lineOf (List.replicate 128 0) = zero128 := rfl
      rw [hz] at hstr
      clear hz
      go_wp2_with (fail)
      go_roundw
      case rel => exact ⟨k + 1, _, by omega, by go_num, hrel2.out⟩
      case measure => simp [intOf]; omega
    · have hk8 : k = 8 := by omega
      have k8 : ¬ ((k : Int) < 8) := by omega
      have hl8 := rep_of l hX.n (fun i hi => hl i (by omega))
      rw [hl8] at hX
      clear hl hl8 hlt hk
      go_wp2_with (fail)
      go_loopw [11] (fun t wr => ∃ (k : Nat) (S : Nat → Prop) (L : List ByteArray) (V : Int → List ByteArray), k ≤ 100 ∧ k ≤ ls.length ∧ t = .int .i64 (k : Int) ∧ MS w1 S wr m g bp cap false L V ∧ SB wr w1.heap.size S x y L (fun i => V (i : Int)) ∧ ∀ z, (V z).length ≤ k) (fun t _ => 100 - (intOf t).toNat)
      case atStart => exact ⟨0, S1, _, _, by omega, by omega, rfl, hB, hX, fun z => by simp [noV]⟩
      case round =>
        clear hB hX k8 hk8
        obtain ⟨k, S, L, V, hk50, hkl, rfl, hB, hX, hVk⟩ := hrel
        by_cases hlt : k < ls.length ∧ k < 100
        · obtain ⟨hl1, hl2⟩ := hlt
          obtain ⟨va, vcap, rfl, vcell⟩ := hR1.nums
          obtain ⟨cb, co, rfl, clt1, cc1⟩ := vcell k hl1
          have hcI := hIn k hl1
          obtain ⟨c, hc⟩ : ∃ c, ls.getD k 0 = c := ⟨_, rfl⟩
          rw [hc] at hcI cc1
          have cc0 := (hB.b.cell (p := ⟨cb, co + k, none⟩) clt1).trans cc1
          obtain ⟨cc, hcc⟩ : ∃ r, pickC c % 1048576 = r := ⟨_, rfl⟩
          have hccb : cc < 1048576 := by rw [← hcc]; exact Nat.mod_lt _ (by omega)
          have cp : ∀ W, Calls Try.prog 13 #[.int .i64 c, .int .i64 1048576] W fun e w' => e = .returned (.int .i64 (cc : Int)) ∧ W = w' := fun W => by
            have := pick_any c 1048576 hcI (by omega) (by omega) W
            rw [hcc] at this; exact this
          obtain ⟨d, hd⟩ : ∃ d, cc % 9 = d := ⟨_, rfl⟩
          obtain ⟨q, hq⟩ : ∃ q, cc / 9 = q := ⟨_, rfl⟩
          have m1 : (cc : Int) % 9 = (d : Int) := by omega
          have m2 : ((cc : Int)).tmod 9 = (d : Int) := by rw [Int.tmod_eq_emod_of_nonneg (by omega)]; exact m1
          have m3 : (cc : Int) / 9 = (q : Int) := by omega
          have m4 : ((cc : Int)).tdiv 9 = (q : Int) := by rw [Int.tdiv_eq_ediv_of_nonneg (by omega)]; exact m3
          have m5 : IntKind.i64.wrap (q : Int) = (q : Int) := wrap_in (by omega) (by omega)
          have hd9 : d < 9 := by omega
          have cS : ∀ W, Calls Try.prog 15 #[.int .i64 (q : Int)] W (GivesS W (sec q)) := fun W => sector_any q (in64_iff.2 (by omega)) W
          have hs8 := sec_size q
          have k1 : (k : Int) < (ls.length : Int) := by omega
          have k2 : (k : Int) < 100 := by omega
          have hL8 := hX.n
          clear hcc hccb hd hq hcI hIn vcell hc hCF hC1 hCn
          generalize sec q = sq at *
          by_cases hd8 : d = 8
          · subst hd8
            go_wp2_with (fail)
            refine (cp _).mono ?_
            rintro e w4 ⟨rfl, rfl⟩
            clear cc0
            go_wp2_with (fail)
            refine (ms_flush hB (fun z => by have := hVk z; omega)).mono ?_
            rintro e w5 ⟨rfl, hs5, hB2⟩
            have hX2 := hX.step hs5
            clear hB hX hs5
            go_wp2_with (fail)
            refine (ms_pend hB2).mono ?_
            rintro e w6 ⟨v6, rfl, b6, o6⟩
            rw [pend_noV] at o6
            have hl6 := fun W => o6.reads.len_run (P := Try.prog) Try.underlying31 3 W
            have hB3 := hB2.after b6
            have hX3 := hX2.after b6
            clear hB2 hX2 b6 o6
            go_wp2_with (fail)
            go_loopw [13] (fun t wr => ∃ j : Nat, j ≤ 8 ∧ t = .int .i64 (j : Int) ∧ MS w1 S wr m g bp cap false (flush L V) noV ∧ SB wr w1.heap.size S x y (fl8 L V j) (fun i => if i < j then [] else V (i : Int))) (fun t _ => 8 - (intOf t).toNat)
            case atStart => exact ⟨0, by omega, rfl, hB3, by rw [fl8_zero]; exact hX3.congr (fun i _ => by rw [if_neg (by omega)])⟩
            case round =>
              clear hB3 hX3 hl6
              obtain ⟨j, hj, rfl, hB, hX⟩ := hrel
              by_cases hlt : j < 8
              · have j1 : (j : Int) < 8 := by omega
                obtain ⟨u, cy, ho⟩ := hX.at hlt
                have e0 : (if j < j then [] else V (j : Int)) = V (j : Int) := if_neg (by omega)
                rw [e0] at ho
                have fy := hX.fy j
                have hD2 : ∀ (i : Nat), (updN (fun i : Nat => if i < j then [] else V (i : Int)) j []) i = if i < j + 1 then [] else V (i : Int) := fun i => by
                  unfold updN
                  by_cases e : i = j
                  · rw [if_pos e, if_pos (by omega)]
                  · rw [if_neg e]
                    show (if i < j then _ else _) = _
                    by_cases e2 : i < j
                    · rw [if_pos e2, if_pos (by omega)]
                    · rw [if_neg e2, if_neg (by omega)]
                by_cases hv : V (j : Int) = []
                · have hlu := fun W => ho.reads.len_run (P := Try.prog) Try.underlying47 3 W
                  rw [hv] at hlu
                  replace hlu : ∀ W, (Builtin.len_ #[47] 3 #[u]).run Try.prog W = .ok (.int .i64 0) W := hlu
                  have hX2 := (hX.nilY hlt).congr (fun i _ => (hD2 i).symm)
                  rw [← fl8_nil L V j hv] at hX2
                  have hB2 := hB.setO hX.from.2 hX.sy j (.slice none 0 0)
                  have hrel2 := Lib.hid (And.intro hB2 hX2)
                  clear hB hX hB2 hX2 ho hv hD2 e0 hVk
                  go_wp2_with (fail)
                  go_roundw
                  case rel => exact ⟨j + 1, by omega, by go_num, hrel2.out⟩
                  case measure => simp [intOf]; omega
                · obtain ⟨n, hn⟩ : ∃ n, (V (j : Int)).length = n + 1 := ⟨(V (j : Int)).length - 1, by have := List.length_pos_iff.2 hv; omega⟩
                  obtain ⟨gg, cv, rfl, _, _⟩ := ho.form (by rw [List.length_map]; omega)
                  rw [List.length_map, hn] at ho cy
                  have hlu := fun W => ho.reads.len_run (P := Try.prog) Try.underlying47 3 W
                  rw [List.length_map, hn] at hlu
                  replace hlu : ∀ W, (Builtin.len_ #[47] 3 #[.slice (some ⟨gg, 0, none⟩) (n + 1) cv]).run Try.prog W = .ok (.int .i64 ((n : Int) + 1)) W := hlu
                  obtain ⟨t, ht⟩ : ∃ t, (V (j : Int)).getD n zero128 = t := ⟨_, rfl⟩
                  have cg := ho.cell (i := n) (by rw [List.length_map]; omega)
                  have eg : ((V (j : Int)).map Value.string).getD n .nilFunc = .string t := by
                    rw [← ht, List.getD_eq_getElem?_getD, List.getElem?_map, List.getElem?_eq_getElem (by omega), List.getD_eq_getElem?_getD, List.getElem?_eq_getElem (by omega)]; rfl
                  rw [eg] at cg
                  have hla : lastOf (V (j : Int)) (L.getD j zero128) = t := by
                    rw [lastOf_get _ _ hv (by omega), ← ht, List.getD_eq_getElem?_getD, List.getElem?_eq_getElem (by omega)]
                    show _ = (V (j : Int))[n]
                    congr 1; omega
                  have cx := hX.cx hlt
                  have fx := hX.fx j
                  have hX2 := ((hX.setX (i := j) t).after ((Below.refl _ _).drew)).nilY hlt |>.congr (fun i _ => (hD2 i).symm)
                  rw [fl8_set L V j (by omega) t hla] at hX2
                  have hyk : (wr.setCell ⟨x, j, none⟩ (.string t)).drew.heap[y]? = wr.heap[y]? := Below.heap_setCell _ _ _ _ (Ne.symm hX.xy)
                  have cy2 := (cell_of_heap hyk j).trans cy
                  have fy2 : (wr.setCell ⟨x, j, none⟩ (.string t)).drew.frozen? ⟨y, j, none⟩ = false := ((hX.setX (i := j) t).after ((Below.refl _ _).drew)).fy j
                  have hB2 := ((hB.setO hX.from.1 hX.sx j (.string t)).after ((Below.refl _ _).drew)).setO hX.from.2 hX.sy j (.slice none 0 0)
                  have hrel2 := Lib.hid (And.intro hB2 hX2)
                  have n1 : IntKind.i64.wrap (n : Int) = (n : Int) := wrap_in (by omega) (by have := hVk j; omega)
                  have n2 : (0 : Int) < (n : Int) + 1 := by omega
                  have n3 : (n : Int) < (n : Int) + 1 := by omega
                  have n4 : (0 : Int) ≤ (n : Int) := by omega
                  have nb : (n : Int) ≤ 1000 := by have := hVk j; omega
                  generalize (fl8 L V j).getD j zero128 = old at cx
                  clear hB hX hB2 hX2 ho hv hD2 e0 hVk hn hla ht eg hyk hL8
                  go_wp2_with (fail)
                  go_region
                  all_goals
                    go_wp2_with (fail)
                    go_roundw
                    case rel => exact ⟨j + 1, by omega, by go_num, hrel2.out⟩
                    case measure => simp [intOf]; omega
              · obtain rfl : j = 8 := by omega
                rw [fl8_all L V 8 (by omega)] at hX
                have hX2 := hX.congr (E := fun i => noV (i : Int)) (fun i hi => by rw [if_pos hi]; rfl)
                clear hX hlt hj
                go_wp2_with (fail)
                go_roundw
                case rel => exact ⟨k + 1, S, _, noV, by omega, by omega, by go_num, hB, hX2, fun z => by simp [noV]⟩
                case measure => simp [intOf]; omega
          · have d8 : d < 8 := by omega
            have d1 : ((d : Int) == 8) = false := by rw [beq_eq_false_iff_ne]; omega
            clear hd8 hd9
            go_wp2_with (fail)
            refine (cp _).mono ?_
            rintro e w4 ⟨rfl, rfl⟩
            clear cc0 cp
            go_wp2_with (fail)
            refine (cS _).mono ?_
            rintro e w5 ⟨rfl, b5⟩
            have hB2 := hB.after b5
            have hX2 := hX.after b5
            clear hB hX b5
            go_wp2_with (fail)
            refine (ms_write hB2 d (by omega) sq hs8 (by have := hVk d; omega)).mono ?_
            rintro e w6 ⟨S6, rfl, hs6, hB3⟩
            have hX3 := hX2.step hs6
            clear hB2 hX2 hs6
            obtain ⟨u, _, w7, cy, ⟨pa, pn, pc, rfl⟩, hap, cy7, fy7, hX4, hb7, hk7⟩ := hX3.push hB3.b.size d8 sq (by have := hVk d; omega) hB3.lt
            have hB4 := hB3.other hb7 hk7
            have hV4 := updV_le hVk d sq
            have hlast : lastOf (updZ V (d : Int) (V (d : Int) ++ [sq]) (d : Int)) (L[d]'(by omega)) = sq := by rw [updZ_same]; unfold lastOf; simp
            have hX5 := hX4.congr (E := fun i => updZ V (d : Int) (V (d : Int) ++ [sq]) (i : Int)) (fun i _ => by
              unfold updN
              by_cases e : i = d
              · rw [if_pos e, e, updZ_same]
              · rw [if_neg e, updZ_other _ _ _ _ (by omega)])
            have cR := ms_read hB4 d (by omega) (by have := hV4 d; omega)
            rw [hlast] at cR
            have d2 : (d : Int) < 8 := by omega
            generalize updZ V (d : Int) (V (d : Int) ++ [sq]) = V4 at *
            clear hX4 hX3 hB3 hb7 hk7 hlast hVk
            go_wp2_with (at_builtin; refine wpList_append_run hap _ _ rfl rfl rfl rfl rfl ?_)
            refine cR.mono ?_
            rintro e w8 ⟨rfl, b8⟩
            have hB8 := hB4.after b8
            have hX8 := hX5.after b8
            clear hB4 hX5 b8 cR hap cy cy7 fy7
            obtain ⟨u2, cy2, ho2⟩ := hX8.at d8
            have hlu := fun W => ho2.reads.len_run (P := Try.prog) Try.underlying47 3 W
            rw [List.length_map] at hlu
            have cV : ∀ W, Below w8.heap.size w8 W → Calls Try.prog 33 #[.pointer (some ⟨m, 0, none⟩), .int .i64 (d : Int)] W fun e w' => e = .returned (.int .i64 ((V4 (d : Int)).length : Int)) ∧ W = w' := fun W hb => ms_vers (hB8.after hb) d (in64_nat d (by omega))
            have hyl := hX8.lt.2
            have hrel2 : ∀ W, Below w8.heap.size w8 W → MS w1 S6 W m g bp cap false L V4 ∧ SB W w1.heap.size S6 x y L (fun i => V4 (i : Int)) := fun W hb => ⟨hB8.after hb, hX8.after hb⟩
            have hrel3 := Lib.hid hrel2
            generalize (V4 (d : Int)).length = vn at hlu cV
            clear hB8 hX8 ho2 hrel2
            go_wp2_with (fail)
            refine wp_region_cls (Below w8.heap.size w8) (by kernel_rfl) (by kernel_rfl) (Below.refl _ _).drew ?_
            intro Z f hne hD hE
            have r1 : ∀ z, (f z).cell? ⟨y, d, none⟩ = some u2 := fun z => (clsCell hD z _ _ hyl).trans cy2
            iterate 16 (go_big_quiet_step (first | (go_at_call 33; with_reducible exact toQ _ (cV _ (hD _)))))
            refine wpQuiet_nil ?_
            intro _ hw'
            obtain ⟨zq, hw''⟩ := hw'
            subst hw''
            have hrel4 := Lib.hid (hrel3.out _ (hD zq))
            generalize f zq = wz at *
            clear r1 hE hD hrel3 cV cy2
            go_wp2_with (fail)
            go_roundw
            case rel => exact ⟨k + 1, S6, L, V4, by omega, by omega, by go_num, hrel4.out.1, hrel4.out.2, hV4⟩
            case measure => simp [intOf]; omega
        · have hcd : ((k : Int) < (ls.length : Int) ∧ ¬ ((k : Int) < 100)) ∨ ¬ ((k : Int) < (ls.length : Int)) := by omega
          clear hIn hlt hR1
          rcases hcd with ⟨kx, k50⟩ | kx
          · skip
            have hL8 := hX.n
            have cC := ms_crash hB vc ch (hC1.below hB.b) (fun hne b hb hs => by have := hC1.blk (by simpa using hne) b hb; have := hB.from b hs; omega) (fun c hc => hCF c hc) hCn (fun z => by have := hVk z; omega)
            go_wp2_with (fail)
            refine cC.mono ?_
            rintro e w5 ⟨rfl, hs5, hB2⟩
            have hX2 := hX.step hs5
            have hin := crash_in L V ch
            have hcn := crash_len L V ch
            generalize crash L V ch = C at *
            clear hB hX hs5 cC hC1 hCF hCn
            go_wp2_with (fail)
            refine (ms_pend hB2).mono ?_
            rintro e w6 ⟨v6, rfl, b6, o6⟩
            rw [pend_noV] at o6
            have hl6 := fun W => o6.reads.len_run (P := Try.prog) Try.underlying31 3 W
            have hB3 := hB2.after b6
            have hX3 := hX2.after b6
            clear hB2 hX2 b6 o6
            go_wp2_with (fail)
            go_loopw [17] (fun t wr => ∃ j : Nat, j ≤ 8 ∧ t = .int .i64 (j : Int) ∧ MS w1 S wr m g bp cap false C noV ∧ SB wr w1.heap.size S x y L (fun i => V (i : Int))) (fun t _ => 8 - (intOf t).toNat)
            case atStart => exact ⟨0, by omega, rfl, hB3, hX3⟩
            case round =>
              clear hB3 hX3 hl6
              obtain ⟨j, hj, rfl, hB, hX⟩ := hrel
              by_cases hlt : j < 8
              · have j1 : (j : Int) < 8 := by omega
                have cR := ms_read hB j (by omega) (by simp [noV])
                have e1 : lastOf (noV (j : Int)) (C[j]'(by omega)) = C.getD j zero128 := by
                  rw [show noV (j : Int) = [] from rfl, lastOf_nil, List.getD_eq_getElem?_getD, List.getElem?_eq_getElem (by omega)]; rfl
                rw [e1] at cR
                have hinj := hin j (by omega)
                generalize C.getD j zero128 = s at *
                go_wp2_with (fail)
                refine cR.mono ?_
                rintro e w7 ⟨rfl, b7⟩
                have hB4 := hB.after b7
                have hX4 := hX.after b7
                clear hB hX b7 cR e1
                have cx := hX4.cx hlt
                obtain ⟨u, cy, ho⟩ := hX4.at hlt
                have hlu := fun W => ho.reads.len_run (P := Try.prog) Try.underlying47 3 W
                rw [List.length_map] at hlu
                obtain ⟨pa, pc, rfl, pcell⟩ := ho.reads.items
                obtain ⟨lj, hlj⟩ : ∃ lj, L.getD j zero128 = lj := ⟨_, rfl⟩
                rw [hlj] at cx hinj
                have hrel5 := Lib.hid (And.intro hB4 hX4)
                obtain ⟨Vj, hVj⟩ : ∃ Vj, V (j : Int) = Vj := ⟨_, rfl⟩
                rw [hVj] at hlu hinj pcell cy
                have hvn : Vj.length ≤ 100 := by rw [← hVj]; have := hVk j; omega
                clear hB4 hX4 ho hlj hVj
                go_wp2_with (fail)
                go_loopw [21, 20] (fun t u wq => ∃ (i : Nat) (b : Bool), i ≤ Vj.length ∧ t = .int .i64 (i : Int) ∧ u = .bool b ∧ w7 = wq ∧ (b = true ∨ (s ≠ lj ∧ ∀ p, p < i → s ≠ Vj.getD p zero128))) (fun t _ _ => Vj.length - (intOf t).toNat)
                case atStart => exact ⟨0, _, by omega, rfl, rfl, rfl, by
                  by_cases e : s = lj
                  · left; rw [e]; exact beq_self_eq_true _
                  · exact .inr ⟨e, fun p hp => absurd hp (Nat.not_lt_zero _)⟩⟩
                case round =>
                  obtain ⟨i, b, hi, rfl, rfl, rfl, hb⟩ := hrel
                  by_cases hil : i < Vj.length
                  · have i1 : (i : Int) < (Vj.length : Int) := by omega
                    cases b with
                    | true =>
                      go_wp2_with (fail)
                      go_roundw
                      case rel => exact ⟨i + 1, true, by omega, by go_num, rfl, trivial, .inl rfl⟩
                      case measure => simp [intOf]; omega
                    | false =>
                      obtain ⟨xb, xo, rfl, xlt, xc⟩ := pcell i hil
                      have hb2 := hb.resolve_left (by simp)
                      have hgi : Vj.getD i zero128 = Vj[i] := by rw [List.getD_eq_getElem?_getD, List.getElem?_eq_getElem hil]; rfl
                      have hnext : ((s.toList == Vj[i].toList) = true ∨ (s ≠ lj ∧ ∀ p, p < i + 1 → s ≠ Vj.getD p zero128)) := by
                        by_cases e : s = Vj[i]
                        · left; rw [e]; exact beq_self_eq_true _
                        · right
                          refine ⟨hb2.1, fun p hp => ?_⟩
                          by_cases e2 : p = i
                          · rw [e2, hgi]; exact e
                          · exact hb2.2 p (by omega)
                      have hnextH := Lib.hid hnext
                      clear hnext hb2 hgi hb
                      generalize Vj[i] = si at *
                      go_wp2_with (fail)
                      go_roundw
                      case rel => exact ⟨i + 1, _, by omega, by go_num, rfl, trivial, hnextH.out⟩
                      case measure => simp [intOf]; omega
                  · obtain rfl : i = Vj.length := by omega
                    have hbt : b = true := by
                      rcases hb with z | ⟨z1, z2⟩
                      · exact z
                      · rcases hinj with q1 | q1
                        · exact absurd q1 z1
                        · obtain ⟨p, hp, e⟩ := List.getElem_of_mem q1
                          exact absurd (by rw [List.getD_eq_getElem?_getD, List.getElem?_eq_getElem hp]; exact e.symm) (z2 p hp)
                    subst hbt
                    clear hb pcell hinj
                    go_wp2_with (fail)
                    go_roundw
                    case rel => exact ⟨j + 1, by omega, by go_num, hrel5.out.1, hrel5.out.2⟩
                    case measure => simp [intOf]; omega
              · obtain rfl : j = 8 := by omega
                have hfin := Lib.hid (hb1H.out.trans (hB.b.mono hb1H.out.size))
                clear hB hX
                go_wp2_with (fail)
                go_ret
                exact ⟨rfl, hfin.out⟩
          · skip
            have hL8 := hX.n
            have cC := ms_crash hB vc ch (hC1.below hB.b) (fun hne b hb hs => by have := hC1.blk (by simpa using hne) b hb; have := hB.from b hs; omega) (fun c hc => hCF c hc) hCn (fun z => by have := hVk z; omega)
            go_wp2_with (fail)
            refine cC.mono ?_
            rintro e w5 ⟨rfl, hs5, hB2⟩
            have hX2 := hX.step hs5
            have hin := crash_in L V ch
            have hcn := crash_len L V ch
            generalize crash L V ch = C at *
            clear hB hX hs5 cC hC1 hCF hCn
            go_wp2_with (fail)
            refine (ms_pend hB2).mono ?_
            rintro e w6 ⟨v6, rfl, b6, o6⟩
            rw [pend_noV] at o6
            have hl6 := fun W => o6.reads.len_run (P := Try.prog) Try.underlying31 3 W
            have hB3 := hB2.after b6
            have hX3 := hX2.after b6
            clear hB2 hX2 b6 o6
            go_wp2_with (fail)
            go_loopw [17] (fun t wr => ∃ j : Nat, j ≤ 8 ∧ t = .int .i64 (j : Int) ∧ MS w1 S wr m g bp cap false C noV ∧ SB wr w1.heap.size S x y L (fun i => V (i : Int))) (fun t _ => 8 - (intOf t).toNat)
            case atStart => exact ⟨0, by omega, rfl, hB3, hX3⟩
            case round =>
              clear hB3 hX3 hl6
              obtain ⟨j, hj, rfl, hB, hX⟩ := hrel
              by_cases hlt : j < 8
              · have j1 : (j : Int) < 8 := by omega
                have cR := ms_read hB j (by omega) (by simp [noV])
                have e1 : lastOf (noV (j : Int)) (C[j]'(by omega)) = C.getD j zero128 := by
                  rw [show noV (j : Int) = [] from rfl, lastOf_nil, List.getD_eq_getElem?_getD, List.getElem?_eq_getElem (by omega)]; rfl
                rw [e1] at cR
                have hinj := hin j (by omega)
                generalize C.getD j zero128 = s at *
                go_wp2_with (fail)
                refine cR.mono ?_
                rintro e w7 ⟨rfl, b7⟩
                have hB4 := hB.after b7
                have hX4 := hX.after b7
                clear hB hX b7 cR e1
                have cx := hX4.cx hlt
                obtain ⟨u, cy, ho⟩ := hX4.at hlt
                have hlu := fun W => ho.reads.len_run (P := Try.prog) Try.underlying47 3 W
                rw [List.length_map] at hlu
                obtain ⟨pa, pc, rfl, pcell⟩ := ho.reads.items
                obtain ⟨lj, hlj⟩ : ∃ lj, L.getD j zero128 = lj := ⟨_, rfl⟩
                rw [hlj] at cx hinj
                have hrel5 := Lib.hid (And.intro hB4 hX4)
                obtain ⟨Vj, hVj⟩ : ∃ Vj, V (j : Int) = Vj := ⟨_, rfl⟩
                rw [hVj] at hlu hinj pcell cy
                have hvn : Vj.length ≤ 100 := by rw [← hVj]; have := hVk j; omega
                clear hB4 hX4 ho hlj hVj
                go_wp2_with (fail)
                go_loopw [21, 20] (fun t u wq => ∃ (i : Nat) (b : Bool), i ≤ Vj.length ∧ t = .int .i64 (i : Int) ∧ u = .bool b ∧ w7 = wq ∧ (b = true ∨ (s ≠ lj ∧ ∀ p, p < i → s ≠ Vj.getD p zero128))) (fun t _ _ => Vj.length - (intOf t).toNat)
                case atStart => exact ⟨0, _, by omega, rfl, rfl, rfl, by
                  by_cases e : s = lj
                  · left; rw [e]; exact beq_self_eq_true _
                  · exact .inr ⟨e, fun p hp => absurd hp (Nat.not_lt_zero _)⟩⟩
                case round =>
                  obtain ⟨i, b, hi, rfl, rfl, rfl, hb⟩ := hrel
                  by_cases hil : i < Vj.length
                  · have i1 : (i : Int) < (Vj.length : Int) := by omega
                    cases b with
                    | true =>
                      go_wp2_with (fail)
                      go_roundw
                      case rel => exact ⟨i + 1, true, by omega, by go_num, rfl, trivial, .inl rfl⟩
                      case measure => simp [intOf]; omega
                    | false =>
                      obtain ⟨xb, xo, rfl, xlt, xc⟩ := pcell i hil
                      have hb2 := hb.resolve_left (by simp)
                      have hgi : Vj.getD i zero128 = Vj[i] := by rw [List.getD_eq_getElem?_getD, List.getElem?_eq_getElem hil]; rfl
                      have hnext : ((s.toList == Vj[i].toList) = true ∨ (s ≠ lj ∧ ∀ p, p < i + 1 → s ≠ Vj.getD p zero128)) := by
                        by_cases e : s = Vj[i]
                        · left; rw [e]; exact beq_self_eq_true _
                        · right
                          refine ⟨hb2.1, fun p hp => ?_⟩
                          by_cases e2 : p = i
                          · rw [e2, hgi]; exact e
                          · exact hb2.2 p (by omega)
                      have hnextH := Lib.hid hnext
                      clear hnext hb2 hgi hb
                      generalize Vj[i] = si at *
                      go_wp2_with (fail)
                      go_roundw
                      case rel => exact ⟨i + 1, _, by omega, by go_num, rfl, trivial, hnextH.out⟩
                      case measure => simp [intOf]; omega
                  · obtain rfl : i = Vj.length := by omega
                    have hbt : b = true := by
                      rcases hb with z | ⟨z1, z2⟩
                      · exact z
                      · rcases hinj with q1 | q1
                        · exact absurd q1 z1
                        · obtain ⟨p, hp, e⟩ := List.getElem_of_mem q1
                          exact absurd (by rw [List.getD_eq_getElem?_getD, List.getElem?_eq_getElem hp]; exact e.symm) (z2 p hp)
                    subst hbt
                    clear hb pcell hinj
                    go_wp2_with (fail)
                    go_roundw
                    case rel => exact ⟨j + 1, by omega, by go_num, hrel5.out.1, hrel5.out.2⟩
                    case measure => simp [intOf]; omega
              · obtain rfl : j = 8 := by omega
                have hfin := Lib.hid (hb1H.out.trans (hB.b.mono hb1H.out.size))
                clear hB hX
                go_wp2_with (fail)
                go_ret
                exact ⟨rfl, hfin.out⟩
end Go.Proofs.Ytbokglifgacodaa

