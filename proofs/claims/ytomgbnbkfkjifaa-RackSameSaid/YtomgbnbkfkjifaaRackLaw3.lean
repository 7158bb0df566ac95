/- rack: RackSame. -/
import Derived.Test.YtomgbnbkfkjifaaRackLaw2
namespace Go.Proofs.Ytomgbnbkfkjifaa
open Go.RowKit
set_option linter.unusedVariables false
set_option linter.unusedSimpArgs false
set_option maxRecDepth 100000

/-- What an act makes of members. -/
def doM (M : Nat → Mst) (cc : Nat) : Nat → Mst :=
  if cc / 3 % 6 = 5 then upd M (cc % 3) ⟨false, flush (M (cc % 3)).L (M (cc % 3)).V, noV⟩
  else upd M (cc % 3) ⟨false, (M (cc % 3)).L, updZ (M (cc % 3)).V ((cc / 3 % 6 : Nat) : Int) ((M (cc % 3)).V ((cc / 3 % 6 : Nat) : Int) ++ [sec (cc : Int)])⟩
theorem doM_good {M : Nat → Mst} {c : Nat} (h : GoodM M 3 5 c) (cc : Nat) : GoodM (doM M cc) 3 5 (c + 1) := by
  obtain ⟨L, V, hM, hL, hV⟩ := h (cc % 3) (Nat.mod_lt _ (by omega))
  unfold doM
  rw [hM]
  split
  · exact h.flush _ V hL
  · exact h.write _ hL hV _ _
set_option maxHeartbeats 2000000 in
theorem do_any {w w1 : World} {S : Nat → Prop} {kk : Nat} {M : Nat → Mst} {acts : Int} (h : RS w S w1 kk 3 M false acts 0) (c : Nat) (hG : GoodM M 3 5 c) (hc : c ≤ 1000) (ha : 0 ≤ acts ∧ acts ≤ 1000000) (cc : Nat) (hcc : cc < 1048576) :
    Calls Try.prog 39 #[.pointer (some ⟨kk, 0, none⟩), .int .i64 (cc : Int)] w1 (RSs w S w1 kk 3 (doM M cc) false (acts + 1) 0 (.int .i64 0)) := by
  obtain ⟨d, hd⟩ : ∃ d, cc % 3 = d := ⟨_, rfl⟩
  obtain ⟨q, hq⟩ : ∃ q, cc / 3 = q := ⟨_, rfl⟩
  obtain ⟨a, haa⟩ : ∃ a, q % 6 = a := ⟨_, rfl⟩
  have m1 : (cc : Int) % 3 = (d : Int) := by omega
  have m2 : ((cc : Int)).tmod 3 = (d : Int) := by rw [Int.tmod_eq_emod_of_nonneg (by omega)]; exact m1
  have m3 : (cc : Int) / 3 = (q : Int) := by omega
  have m4 : ((cc : Int)).tdiv 3 = (q : Int) := by rw [Int.tdiv_eq_ediv_of_nonneg (by omega)]; exact m3
  have m5 : IntKind.i64.wrap (q : Int) = (q : Int) := wrap_in (by omega) (by omega)
  have m6 : (q : Int) % 6 = (a : Int) := by omega
  have m7 : ((q : Int)).tmod 6 = (a : Int) := by rw [Int.tmod_eq_emod_of_nonneg (by omega)]; exact m6
  have hd3 : d < 3 := by omega
  have ha6 : a < 6 := by omega
  obtain ⟨L, V, hM, hL5, hVk⟩ := hG d hd3
  have hdo : doM M cc = if a = 5 then upd M d ⟨false, flush L V, noV⟩ else upd M d ⟨false, L, updZ V (a : Int) (V (a : Int) ++ [sec (cc : Int)])⟩ := by
    unfold doM
    rw [hq, haa, hd, hM]
  have cS : ∀ W, Calls Try.prog 13 #[.int .i64 (cc : Int)] W (GivesS W (sec cc)) := fun W => sector_any cc (in64_iff.2 (by omega)) W
  have hs8 := sec_size cc
  have hdoH := Lib.hid hdo
  clear hdo
  generalize doM M cc = M2 at *
  clear hG hd hq haa hcc
  generalize sec (cc : Int) = sq at *
  by_cases ha5 : a = 5
  · subst ha5
    have e2 := hdoH.out
    rw [if_pos rfl] at e2
    have cF := rs_flush h d hd3 (by omega) (by omega) (by omega) hM (fun z => by have := hVk z; omega)
    rw [← e2] at cF
    clear h hM hVk hdoH e2 cS
    go_enter Try.func39, Try.ntmps39
    go_wp2_with (fail)
    refine cF.mono ?_
    rintro e w6 ⟨S6, rfl, hs6, hB3⟩
    rw [nxt0] at hB3
    clear cF
    go_wp2_with (fail)
    go_ret
    exact ⟨S6, rfl, hs6, hB3⟩
  · have ha1 : ((a : Int) == 5) = false := by rw [beq_eq_false_iff_ne]; omega
    have e2 := hdoH.out
    rw [if_neg ha5] at e2
    clear hdoH
    go_enter Try.func39, Try.ntmps39
    go_wp2_with (fail)
    refine (cS _).mono ?_
    rintro e w5 ⟨rfl, b5⟩
    have cW := rs_write (h.after b5) d hd3 (by omega) (by omega) (by omega) hM a (by omega) sq hs8 (by have := hVk a; omega)
    rw [← e2] at cW
    clear e2 hM hVk
    go_wp2_with (fail)
    refine cW.mono ?_
    rintro e w6 ⟨S6, rfl, hs6, hB3⟩
    rw [nxt0] at hB3
    have hq := (Stp.quiet (S := S) b5).trans hs6
    clear cW
    go_wp2_with (fail)
    go_ret
    exact ⟨S6, rfl, hq, hB3⟩
def dfl : Value × List Int := (.slice none 0 0, [])
/-- What the other rack is handed for slot i. -/
def elM (M : Nat → Mst) (l1 l2 : List (Value × List Int)) (i : Nat) : Value × List Int := if (pend (M i).L.length (M i).V).length = 0 ∧ i < l2.length then l2.getD i dfl else l1.getD i dfl
theorem elM_crash (M : Nat → Mst) (l1 l2 : List (Value × List Int)) (i : Nat) : crashM (M i) (elM M l1 l2 i).2 = crashM (M i) (chs l1 i) := by
  unfold elM
  split
  · rename_i h
    have hp : pend (M i).L.length (M i).V = [] := List.eq_nil_of_length_eq_zero h.1
    unfold crashM crash
    rw [hp]; rfl
  · rfl
theorem elM_ok {w : World} {v1 v2 : Value} {l1 l2 : List (Value × List Int)} (h1 : ChR w v1 l1) (h2 : ChR w v2 l2) (M : Nat → Mst) (i : Nat) : Reads w (elM M l1 l2 i).1 ((elM M l1 l2 i).2.map (.int .i64)) ∧ (∀ c ∈ (elM M l1 l2 i).2, In64 c) ∧ (elM M l1 l2 i).2.length ≤ 140737488355328 := by
  have gd : ∀ l : List (Value × List Int), (∀ x ∈ l, Reads w x.1 (x.2.map (.int .i64)) ∧ (∀ c ∈ x.2, In64 c) ∧ x.2.length ≤ 140737488355328) → Reads w (l.getD i dfl).1 ((l.getD i dfl).2.map (.int .i64)) ∧ (∀ c ∈ (l.getD i dfl).2, In64 c) ∧ (l.getD i dfl).2.length ≤ 140737488355328 := fun l hl => by
    by_cases e : i < l.length
    · rw [List.getD_eq_getElem?_getD, List.getElem?_eq_getElem e]; exact hl _ (List.getElem_mem e)
    · rw [List.getD_eq_getElem?_getD, List.getElem?_eq_none (by omega)]
      exact ⟨.inl ⟨⟨_, _, rfl⟩, rfl⟩, (fun c hc => by cases hc), by simp [dfl]⟩
  unfold elM
  split
  · exact gd l2 h2.c
  · exact gd l1 h1.c
theorem ints_is9 : ∃ i, Try.prog.info? 48 = some i ∧ i.zero = some (.slice none 0 0) ∧ i.size = 1 ∧ i.bytes = 24 := (cont_gen (P := Try.prog) (t := 48) (c := .slice none 0 0) (n := 1) (k := 24) (by kernel_rfl)).2
theorem Reads.slc {w : World} {v : Value} {xs : List Value} (h : Reads w v xs) : ∃ a n c, v = .slice a n c := by
  rcases h with ⟨⟨a, c, rfl⟩, _⟩ | ⟨b, o, c, rfl, _⟩
  · exact ⟨_, _, _, rfl⟩
  · exact ⟨_, _, _, rfl⟩
theorem oneCell_of {w : World} {v : Value} {xs : List Value} (h : Reads w v xs) : v.oneCell' = true := by
  rcases h with ⟨⟨a, c, rfl⟩, _⟩ | ⟨b, o, c, rfl, _⟩ <;> rfl
set_option maxHeartbeats 4000000 in
theorem same9_walk (v : Value) (ls : List Int) (v1 : Value) (l1 : List (Value × List Int)) (v2 : Value) (l2 : List (Value × List Int)) (w : World) (hR : Reads w v (ls.map (.int .i64))) (hF : ∀ n ∈ ls, (Lit.int .i64 n).wf = true)
    (hC1 : ChR w v1 l1) (hC2 : ChR w v2 l2) (hn1 : l1.length ≤ 140737488355328) (hn2 : l2.length ≤ 140737488355328) :
    Calls Try.prog 6 #[v, v1, v2] w (Ends w true) := by
  have cN : ∀ W, Calls Try.prog 9 #[.int .i64 3, .int .i64 5] W fun e w' => ∃ S k, e = .returned (.tuple #[.pointer (some ⟨k, 0, none⟩), .int .i64 0]) ∧ RS W S w' k 3 (blankM 5) false 0 0 := fun W => rs_new 3 5 W (by omega) (by omega) (by omega) (by omega)
  have hIn : ∀ k, k < ls.length → In64 (ls.getD k 0) := fun k hk => by
    rw [List.getD_eq_getElem?_getD, List.getElem?_eq_getElem hk]; exact hF _ (List.getElem_mem hk)
  have hlenv := fun W => hR.len_run (P := Try.prog) Try.underlying48 3 W
  rw [List.length_map] at hlenv
  have hlen1 := fun W => hC1.o.len_run (P := Try.prog) Try.underlying31 3 W
  rw [List.length_map] at hlen1
  have hlen2 := fun W => hC2.o.len_run (P := Try.prog) Try.underlying31 3 W
  rw [List.length_map] at hlen2
  clear hF
  go_enter Try.func6, Try.ntmps6
  go_wp2_with (fail)
  refine (awake9_any _).mono ?_
  rintro e w1 ⟨rfl, b1⟩
  have hR1 := hR.below b1
  have hD1 := hC1.below b1
  have hD2 := hC2.below b1
  go_wp2_with (fail)
  refine (cN _).mono ?_
  rintro e w2 ⟨S1, ka, rfl, h1⟩
  go_wp2_with (fail)
  refine (cN _).mono ?_
  rintro e w3 ⟨S2, kb, rfl, h2⟩
  have hA0 := h1.after h2.b
  have hB0 : RS w1 S2 w3 kb 3 (blankM 5) false 0 0 := by
    obtain ⟨Λ, x2⟩ := h2.h
    exact ⟨h1.b.trans (h2.b.mono h1.b.size), fun x hx => Nat.le_trans h1.b.size (h2.f x hx), Λ, x2⟩
  have hD0 : ∀ k, S2 k → ¬ S1 k := fun k h3 h4 => by have := h2.f k h3; have := h1.lt k h4; omega
  have hb1H := Lib.hid b1
  clear b1 cN hR hC1 hC2 h1 h2
  go_wp2_with (fail)
  go_loopw [13, 14] (fun t _ wr => ∃ (k : Nat) (S T : Nat → Prop) (M : Nat → Mst), k ≤ 60 ∧ k ≤ ls.length ∧ t = .int .i64 (k : Int) ∧ RS w1 S wr ka 3 M false (k : Int) 0 ∧ RS w1 T wr kb 3 M false (k : Int) 0 ∧ (∀ x, T x → ¬ S x) ∧ GoodM M 3 5 k) (fun t _ _ => 60 - (intOf t).toNat)
  case atStart => exact ⟨0, S1, S2, _, by omega, by omega, rfl, hA0, hB0, hD0, GoodM.start 3 5 0⟩
  case round =>
    clear hA0 hB0 hD0
    obtain ⟨k, S, T, M, hk50, hkl, rfl, hA, hB, hST, hG⟩ := hrel
    by_cases hlt : k < ls.length ∧ k < 60
    · obtain ⟨hl1, hl2⟩ := hlt
      obtain ⟨va, vcap, rfl, vcell⟩ := hR1.nums
      obtain ⟨cb, co, rfl, clt1, cc1⟩ := vcell k hl1
      have hcI := hIn k hl1
      obtain ⟨c, hc⟩ : ∃ c, ls.getD k 0 = c := ⟨_, rfl⟩
      rw [hc] at hcI cc1
      have cc0 := (hB.b.cell (p := ⟨cb, co + k, none⟩) clt1).trans cc1
      obtain ⟨cc, hcc⟩ : ∃ r, pickC c % 1048576 = r := ⟨_, rfl⟩
      have hccb : cc < 1048576 := by rw [← hcc]; exact Nat.mod_lt _ (by omega)
      have cp : ∀ W, Calls Try.prog 11 #[.int .i64 c, .int .i64 1048576] W fun e w' => e = .returned (.int .i64 (cc : Int)) ∧ W = w' := fun W => by
        have := pick9_any c 1048576 hcI (by omega) (by omega) W
        rw [hcc] at this; exact this
      have k1 : (k : Int) < (ls.length : Int) := by omega
      have k2 : (k : Int) < 60 := by omega
      have cA := do_any hA k hG (by omega) (by omega) cc hccb
      clear hcc hcI hIn vcell hc hD1 hD2 hn1 hn2
      go_wp2_with (fail)
      refine (cp _).mono ?_
      rintro e w4 ⟨rfl, rfl⟩
      clear cc0 cp
      go_wp2_with (fail)
      refine cA.mono ?_
      rintro e w5 ⟨S5, rfl, hs5, hA5⟩
      obtain ⟨hB5, hST5⟩ := hB.step hs5 hA.f hST
      have cB := do_any hB5 k hG (by omega) (by omega) cc hccb
      clear hA hB hs5 cA hccb
      go_wp2_with (fail)
      refine cB.mono ?_
      rintro e w6 ⟨T6, rfl, hs6, hB6⟩
      obtain ⟨hA6, hST6⟩ := hA5.step hs6 hB5.f (fun x h1 h2 => hST5 x h2 h1)
      have hG6 := doM_good hG cc
      have e1 : ((k + 1 : Nat) : Int) = (k : Int) + 1 := by omega
      rw [← e1] at hA6 hB6
      generalize doM M cc = M6 at *
      clear hA5 hB5 hs6 cB e1 hG
      go_wp2_with (fail)
      go_roundw
      case rel => exact ⟨k + 1, S5, T6, M6, by omega, by omega, by go_num, hA6, hB6, fun x h1 h2 => hST6 x h2 h1, hG6⟩
      case measure => simp [intOf]; omega
    · have hcd : ((k : Int) < (ls.length : Int) ∧ ¬ ((k : Int) < 60)) ∨ ¬ ((k : Int) < (ls.length : Int)) := by omega
      have hkm : (if (60 : Int) < (ls.length : Int) then (60 : Int) else (ls.length : Int)) = (k : Int) := by split <;> omega
      have hmn : ∀ W, (Builtin.min_ #[3, 3] 3 #[.int .i64 (ls.length : Int), .int .i64 60]).run Try.prog W = .ok (.int .i64 (k : Int)) W := fun W => by
        simp [Builtin.min_, Builtin.min2, hkm]
      clear hIn hlt hR1 hkm
      rcases hcd with ⟨kx, k50⟩ | kx
      · skip
        obtain ⟨p1, c1, rfl, cell1⟩ := hD1.o.items
        obtain ⟨p2, c2, rfl, cell2⟩ := hD2.o.items
        go_wp2_with (fail)
        go_loopw [16, 15] (fun t vx wq => ∃ (j : Nat) (u : Value), u = vx ∧ j ≤ 3 ∧ t = .int .i64 (j : Int) ∧ Below wr.heap.size wr wq ∧ Own wq wr.heap.size 48 u (rowV j fun i => (elM M l1 l2 i).1)) (fun t _ _ => 3 - (intOf t).toNat)
        case atStart => exact ⟨0, _, rfl, by omega, rfl, Below.refl _ _, Own.nil _ _ _⟩
        case round =>
          obtain ⟨j, u, rfl, hj, rfl, hbq, ho⟩ := hrel
          by_cases hlt : j < 3
          · have j1 : (j : Int) < 3 := by omega
            by_cases hj1 : j < l1.length
            · skip
              obtain ⟨b1, o1, rfl, lt1, cc1⟩ := cell1 j hj1
              have cc1' := ((hB.after hbq).b.cell (p := ⟨b1, o1 + j, none⟩) lt1).trans cc1
              have jl1 : (j : Int) < (l1.length : Int) := by omega
              obtain ⟨ea, en, ec, he1⟩ := (hD1.c _ (List.getElem_mem hj1)).1.slc
              rw [he1] at cc1'
              have eq1 : l1.getD j dfl = l1[j] := by rw [List.getD_eq_getElem?_getD, List.getElem?_eq_getElem hj1]; rfl
              have cP := rs_pend (hB.after hbq) j hlt
              obtain ⟨p, hp⟩ : ∃ p, (pend (M j).L.length (M j).V).length = p := ⟨_, rfl⟩
              rw [hp] at cP
              go_wp2_with (fail)
              refine cP.mono ?_
              rintro e w7 ⟨rfl, b7⟩
              clear cP
              by_cases hp0 : p = 0
              · subst hp0
                by_cases hj2 : j < l2.length
                · obtain ⟨b2, o2, rfl, lt2, cc2⟩ := cell2 j hj2
                  have cc2' := (((hB.after hbq).after b7).b.cell (p := ⟨b2, o2 + j, none⟩) lt2).trans cc2
                  have jl2 : (j : Int) < (l2.length : Int) := by omega
                  obtain ⟨fa, fn, fc, he2⟩ := (hD2.c _ (List.getElem_mem hj2)).1.slc
                  rw [he2] at cc2'
                  have eqv : elM M l1 l2 j = l2[j] := by
                    unfold elM
                    rw [if_pos ⟨hp, hj2⟩, List.getD_eq_getElem?_getD, List.getElem?_eq_getElem hj2]; rfl
                  obtain ⟨si, s1, s2, s3, s4⟩ := ints_is9
                  obtain ⟨v', w', hap, ho2, hb2⟩ := Own.push (P := Try.prog) (T := 31) Try.underlying31 s1 s2 s3 s4 rfl (ho.after b7) (elM M l1 l2 j).1 (oneCell_of (elM_ok hD1 hD2 M j).1) (Nat.le_trans hbq.size b7.size) (by rw [rowV_len]; omega) (by rw [rowV_len]; omega)
                  have hro : rowV j (fun i => (elM M l1 l2 i).1) ++ [(elM M l1 l2 j).1] = rowV (j + 1) fun i => (elM M l1 l2 i).1 := by
                    unfold rowV
                    rw [List.range_succ, List.map_append]; rfl
                  rw [hro] at ho2
                  rw [eqv, he2] at hap
                  have hrel2 := Lib.hid (And.intro ((hbq.trans (b7.mono hbq.size)).trans hb2) ho2)
                  clear hro ho2 hb2 s1 s2 s3 s4 ho hbq b7
                  go_wp2_with (at_builtin; refine wpList_append_run hap _ _ rfl rfl rfl rfl rfl ?_)
                  go_roundw
                  case rel => exact ⟨j + 1, v', rfl, by omega, by go_num, hrel2.out⟩
                  case measure => simp [intOf]; omega
                · have jl2 : ¬ (j : Int) < (l2.length : Int) := by omega
                  have eqv : elM M l1 l2 j = l1[j] := by
                    unfold elM
                    rw [if_neg (fun h => hj2 h.2), eq1]
                  obtain ⟨si, s1, s2, s3, s4⟩ := ints_is9
                  obtain ⟨v', w', hap, ho2, hb2⟩ := Own.push (P := Try.prog) (T := 31) Try.underlying31 s1 s2 s3 s4 rfl (ho.after b7) (elM M l1 l2 j).1 (oneCell_of (elM_ok hD1 hD2 M j).1) (Nat.le_trans hbq.size b7.size) (by rw [rowV_len]; omega) (by rw [rowV_len]; omega)
                  have hro : rowV j (fun i => (elM M l1 l2 i).1) ++ [(elM M l1 l2 j).1] = rowV (j + 1) fun i => (elM M l1 l2 i).1 := by
                    unfold rowV
                    rw [List.range_succ, List.map_append]; rfl
                  rw [hro] at ho2
                  rw [eqv, he1] at hap
                  have hrel2 := Lib.hid (And.intro ((hbq.trans (b7.mono hbq.size)).trans hb2) ho2)
                  clear hro ho2 hb2 s1 s2 s3 s4 ho hbq b7
                  go_wp2_with (at_builtin; refine wpList_append_run hap _ _ rfl rfl rfl rfl rfl ?_)
                  go_roundw
                  case rel => exact ⟨j + 1, v', rfl, by omega, by go_num, hrel2.out⟩
                  case measure => simp [intOf]; omega
              · have hp1 : ((p : Int) == 0) = false := by rw [beq_eq_false_iff_ne]; omega
                have eqv : elM M l1 l2 j = l1[j] := by
                  unfold elM
                  rw [if_neg (fun h => hp0 (hp ▸ h.1)), eq1]
                obtain ⟨si, s1, s2, s3, s4⟩ := ints_is9
                obtain ⟨v', w', hap, ho2, hb2⟩ := Own.push (P := Try.prog) (T := 31) Try.underlying31 s1 s2 s3 s4 rfl (ho.after b7) (elM M l1 l2 j).1 (oneCell_of (elM_ok hD1 hD2 M j).1) (Nat.le_trans hbq.size b7.size) (by rw [rowV_len]; omega) (by rw [rowV_len]; omega)
                have hro : rowV j (fun i => (elM M l1 l2 i).1) ++ [(elM M l1 l2 j).1] = rowV (j + 1) fun i => (elM M l1 l2 i).1 := by
                  unfold rowV
                  rw [List.range_succ, List.map_append]; rfl
                rw [hro] at ho2
                rw [eqv, he1] at hap
                have hrel2 := Lib.hid (And.intro ((hbq.trans (b7.mono hbq.size)).trans hb2) ho2)
                clear hro ho2 hb2 s1 s2 s3 s4 ho hbq b7
                go_wp2_with (at_builtin; refine wpList_append_run hap _ _ rfl rfl rfl rfl rfl ?_)
                go_roundw
                case rel => exact ⟨j + 1, v', rfl, by omega, by go_num, hrel2.out⟩
                case measure => simp [intOf]; omega
            · skip
              have jl1 : ¬ (j : Int) < (l1.length : Int) := by omega
              have eq1 : l1.getD j dfl = dfl := by rw [List.getD_eq_getElem?_getD, List.getElem?_eq_none (by omega)]; rfl
              have cP := rs_pend (hB.after hbq) j hlt
              obtain ⟨p, hp⟩ : ∃ p, (pend (M j).L.length (M j).V).length = p := ⟨_, rfl⟩
              rw [hp] at cP
              go_wp2_with (fail)
              refine cP.mono ?_
              rintro e w7 ⟨rfl, b7⟩
              clear cP
              by_cases hp0 : p = 0
              · subst hp0
                by_cases hj2 : j < l2.length
                · obtain ⟨b2, o2, rfl, lt2, cc2⟩ := cell2 j hj2
                  have cc2' := (((hB.after hbq).after b7).b.cell (p := ⟨b2, o2 + j, none⟩) lt2).trans cc2
                  have jl2 : (j : Int) < (l2.length : Int) := by omega
                  obtain ⟨fa, fn, fc, he2⟩ := (hD2.c _ (List.getElem_mem hj2)).1.slc
                  rw [he2] at cc2'
                  have eqv : elM M l1 l2 j = l2[j] := by
                    unfold elM
                    rw [if_pos ⟨hp, hj2⟩, List.getD_eq_getElem?_getD, List.getElem?_eq_getElem hj2]; rfl
                  obtain ⟨si, s1, s2, s3, s4⟩ := ints_is9
                  obtain ⟨v', w', hap, ho2, hb2⟩ := Own.push (P := Try.prog) (T := 31) Try.underlying31 s1 s2 s3 s4 rfl (ho.after b7) (elM M l1 l2 j).1 (oneCell_of (elM_ok hD1 hD2 M j).1) (Nat.le_trans hbq.size b7.size) (by rw [rowV_len]; omega) (by rw [rowV_len]; omega)
                  have hro : rowV j (fun i => (elM M l1 l2 i).1) ++ [(elM M l1 l2 j).1] = rowV (j + 1) fun i => (elM M l1 l2 i).1 := by
                    unfold rowV
                    rw [List.range_succ, List.map_append]; rfl
                  rw [hro] at ho2
                  rw [eqv, he2] at hap
                  have hrel2 := Lib.hid (And.intro ((hbq.trans (b7.mono hbq.size)).trans hb2) ho2)
                  clear hro ho2 hb2 s1 s2 s3 s4 ho hbq b7
                  go_wp2_with (at_builtin; refine wpList_append_run hap _ _ rfl rfl rfl rfl rfl ?_)
                  go_roundw
                  case rel => exact ⟨j + 1, v', rfl, by omega, by go_num, hrel2.out⟩
                  case measure => simp [intOf]; omega
                · have jl2 : ¬ (j : Int) < (l2.length : Int) := by omega
                  have eqv : elM M l1 l2 j = dfl := by
                    unfold elM
                    rw [if_neg (fun h => hj2 h.2), eq1]
                  obtain ⟨si, s1, s2, s3, s4⟩ := ints_is9
                  obtain ⟨v', w', hap, ho2, hb2⟩ := Own.push (P := Try.prog) (T := 31) Try.underlying31 s1 s2 s3 s4 rfl (ho.after b7) (elM M l1 l2 j).1 (oneCell_of (elM_ok hD1 hD2 M j).1) (Nat.le_trans hbq.size b7.size) (by rw [rowV_len]; omega) (by rw [rowV_len]; omega)
                  have hro : rowV j (fun i => (elM M l1 l2 i).1) ++ [(elM M l1 l2 j).1] = rowV (j + 1) fun i => (elM M l1 l2 i).1 := by
                    unfold rowV
                    rw [List.range_succ, List.map_append]; rfl
                  rw [hro] at ho2
                  rw [eqv, show dfl.1 = Value.slice none 0 0 from rfl] at hap
                  have hrel2 := Lib.hid (And.intro ((hbq.trans (b7.mono hbq.size)).trans hb2) ho2)
                  clear hro ho2 hb2 s1 s2 s3 s4 ho hbq b7
                  go_wp2_with (at_builtin; refine wpList_append_run hap _ _ rfl rfl rfl rfl rfl ?_)
                  go_roundw
                  case rel => exact ⟨j + 1, v', rfl, by omega, by go_num, hrel2.out⟩
                  case measure => simp [intOf]; omega
              · have hp1 : ((p : Int) == 0) = false := by rw [beq_eq_false_iff_ne]; omega
                have eqv : elM M l1 l2 j = dfl := by
                  unfold elM
                  rw [if_neg (fun h => hp0 (hp ▸ h.1)), eq1]
                obtain ⟨si, s1, s2, s3, s4⟩ := ints_is9
                obtain ⟨v', w', hap, ho2, hb2⟩ := Own.push (P := Try.prog) (T := 31) Try.underlying31 s1 s2 s3 s4 rfl (ho.after b7) (elM M l1 l2 j).1 (oneCell_of (elM_ok hD1 hD2 M j).1) (Nat.le_trans hbq.size b7.size) (by rw [rowV_len]; omega) (by rw [rowV_len]; omega)
                have hro : rowV j (fun i => (elM M l1 l2 i).1) ++ [(elM M l1 l2 j).1] = rowV (j + 1) fun i => (elM M l1 l2 i).1 := by
                  unfold rowV
                  rw [List.range_succ, List.map_append]; rfl
                rw [hro] at ho2
                rw [eqv, show dfl.1 = Value.slice none 0 0 from rfl] at hap
                have hrel2 := Lib.hid (And.intro ((hbq.trans (b7.mono hbq.size)).trans hb2) ho2)
                clear hro ho2 hb2 s1 s2 s3 s4 ho hbq b7
                go_wp2_with (at_builtin; refine wpList_append_run hap _ _ rfl rfl rfl rfl rfl ?_)
                go_roundw
                case rel => exact ⟨j + 1, v', rfl, by omega, by go_num, hrel2.out⟩
                case measure => simp [intOf]; omega
          · have hj3 : j = 3 := by omega
            have j3 : ¬ ((j : Int) < 3) := by omega
            rw [hj3] at ho
            have hA5 := hA.after hbq
            have hB5 := hB.after hbq
            have cR1 := rs_restart hA5 _ l1 (hD1.below hA5.b) (hD1.old hA5.f) hn1 (fun i hi z => by obtain ⟨L, V, h1, _, h3⟩ := hG i hi; rw [h1]; have := h3 z; show (V z).length ≤ _; omega)
            obtain ⟨C, hC, hC5⟩ := hG.crash l1
            have hu : ∀ b, u.ownBlock = some b → ¬ S b ∧ ¬ T b := fun b hb => ⟨fun hs => by have := hA.lt b hs; have := (ho.o.lt b hb).1; omega, fun hs => by have := hB.lt b hs; have := (ho.o.lt b hb).1; omega⟩
            clear hbq hj hj3 hlt hA hB
            go_wp2_with (fail)
            refine cR1.mono ?_
            rintro e w6 ⟨rfl, hs6, hA60⟩
            have hA6 := hA60.congr (M' := liveM C) (fun i hi => (hC i hi).symm)
            obtain ⟨hB6, hST6⟩ := hB5.step hs6 hA5.f hST
            have ho6 := ho.sameAt fun b hb => hs6.oth b (ho.o.lt b hb).2 (hu b hb).1
            have hin : ∀ i, elM M l1 l2 i = elM M l1 l2 i := fun _ => rfl
            have hmem : ∀ x ∈ (List.range 3).map (elM M l1 l2), ∃ i, x = elM M l1 l2 i := fun x hx => by obtain ⟨i, _, rfl⟩ := List.mem_map.1 hx; exact ⟨i, rfl⟩
            have hch : ChR w6 u ((List.range 3).map (elM M l1 l2)) := by
              refine ⟨?_, fun x hx => ?_⟩
              · have := ho6.reads
                unfold rowV at this
                rw [List.map_map]; exact this
              · obtain ⟨i, rfl⟩ := hmem x hx
                have := elM_ok hD1 hD2 M i
                exact ⟨this.1.below hB6.b, this.2⟩
            have hca : ChA u ((List.range 3).map (elM M l1 l2)) T := ⟨fun _ b hb => (hu b hb).2, fun x hx hne b hb ht => by
              obtain ⟨i, rfl⟩ := hmem x hx
              have := (elM_ok hD1 hD2 M i).1.blk (by simpa using hne) b hb
              have := hB6.f b ht
              omega⟩
            have cR2 := rs_restart hB6 u _ hch hca (by simp) (fun i hi z => by obtain ⟨L, V, h1, _, h3⟩ := hG i hi; rw [h1]; have := h3 z; show (V z).length ≤ _; omega)
            have hcb : ∀ i, i < 3 → liveM C i = crashM (M i) (chs ((List.range 3).map (elM M l1 l2)) i) := fun i hi => by
              have e : chs ((List.range 3).map (elM M l1 l2)) i = (elM M l1 l2 i).2 := by
                unfold chs
                rw [List.getD_eq_getElem?_getD, List.getElem?_map, List.getElem?_range hi]; rfl
              rw [e, elM_crash]; exact (hC i hi).symm
            clear hA60 hA5 hB5 ho hs6 ho6 hin hmem hch hca cR1 hD1 hD2 hn1 hn2 hG hC cell1 cell2
            go_wp2_with (fail)
            refine cR2.mono ?_
            rintro e w7 ⟨rfl, hs7, hB70⟩
            have hB7 := hB70.congr hcb
            obtain ⟨hA7, _⟩ := hA6.step hs7 hB6.f (fun x h1 h2 => hST6 x h2 h1)
            clear hB70 hcb hs7 cR2 hA6 hB6 hu j3
            go_wp2_with (fail)
            go_loopw [18] (fun t wq => ∃ (j : Nat), j ≤ 3 ∧ t = .int .i64 (j : Int) ∧ RS w1 S wq ka 3 (liveM C) false (k : Int) 0 ∧ RS w1 T wq kb 3 (liveM C) false (k : Int) 0) (fun t _ => 3 - (intOf t).toNat)
            case atStart => exact ⟨0, by omega, rfl, hA7, hB7⟩
            case round =>
              clear hA7 hB7
              obtain ⟨j, hj, rfl, hA, hB⟩ := hrel
              by_cases hlt : j < 3
              · have j1 : (j : Int) < 3 := by omega
                have hLj := hC5 j hlt
                go_wp2_with (fail)
                refine (rs_image hA j hlt (L := C j) (V := noV) rfl).mono ?_
                rintro e w8 ⟨x, rfl, b8, o8⟩
                rw [hLj] at o8 ⊢
                have hA8 := hA.after b8
                have hB8 := hB.after b8
                clear hA hB b8
                go_wp2_with (fail)
                refine (rs_image hB8 j hlt (L := C j) (V := noV) rfl).mono ?_
                rintro e w9 ⟨y, rfl, b9, o9⟩
                rw [hLj] at o9 ⊢
                have hA9 := hA8.after b9
                have hB9 := hB8.after b9
                have hsame := same_any _ _ _ _ w9 (o8.reads.below b9) o9.reads (by omega) (by omega)
                rw [decide_eq_true rfl] at hsame
                clear hA8 hB8 b9 o8 o9
                go_wp2_with (fail)
                refine hsame.mono ?_
                rintro e w10 ⟨rfl, b10, _⟩
                have hA10 := hA9.after b10
                have hB10 := hB9.after b10
                have cP := rs_pend hA10 j hlt
                have e0 : (pend (liveM C j).L.length (liveM C j).V).length = 0 := by
                  show (pend (C j).length noV).length = 0
                  rw [pendN]; rfl
                rw [e0] at cP
                clear hA9 hB9 b10 hsame
                go_wp2_with (fail)
                refine cP.mono ?_
                rintro e w11 ⟨rfl, b11⟩
                have hrel2 := Lib.hid (And.intro (hA10.after b11) (hB10.after b11))
                clear hA10 hB10 b11 cP
                go_wp2_with (fail)
                go_roundw
                case rel => exact ⟨j + 1, by omega, by go_num, hrel2.out⟩
                case measure => simp [intOf]; omega
              · obtain rfl : j = 3 := by omega
                have hfin := Lib.hid (hb1H.out.trans (hA.b.mono hb1H.out.size))
                go_wp2_with (fail)
                refine (rs_acts hA).mono ?_
                rintro e w' ⟨rfl, rfl⟩
                go_wp2_with (fail)
                refine (rs_acts hB).mono ?_
                rintro e w' ⟨rfl, rfl⟩
                go_wp2_with (fail)
                refine (rs_acts hA).mono ?_
                rintro e w' ⟨rfl, rfl⟩
                clear hA hB
                go_wp2_with (fail)
                go_ret
                exact ⟨rfl, hfin.out⟩
      · skip
        obtain ⟨p1, c1, rfl, cell1⟩ := hD1.o.items
        obtain ⟨p2, c2, rfl, cell2⟩ := hD2.o.items
        go_wp2_with (fail)
        go_loopw [16, 15] (fun t vx wq => ∃ (j : Nat) (u : Value), u = vx ∧ j ≤ 3 ∧ t = .int .i64 (j : Int) ∧ Below wr.heap.size wr wq ∧ Own wq wr.heap.size 48 u (rowV j fun i => (elM M l1 l2 i).1)) (fun t _ _ => 3 - (intOf t).toNat)
        case atStart => exact ⟨0, _, rfl, by omega, rfl, Below.refl _ _, Own.nil _ _ _⟩
        case round =>
          obtain ⟨j, u, rfl, hj, rfl, hbq, ho⟩ := hrel
          by_cases hlt : j < 3
          · have j1 : (j : Int) < 3 := by omega
            by_cases hj1 : j < l1.length
            · skip
              obtain ⟨b1, o1, rfl, lt1, cc1⟩ := cell1 j hj1
              have cc1' := ((hB.after hbq).b.cell (p := ⟨b1, o1 + j, none⟩) lt1).trans cc1
              have jl1 : (j : Int) < (l1.length : Int) := by omega
              obtain ⟨ea, en, ec, he1⟩ := (hD1.c _ (List.getElem_mem hj1)).1.slc
              rw [he1] at cc1'
              have eq1 : l1.getD j dfl = l1[j] := by rw [List.getD_eq_getElem?_getD, List.getElem?_eq_getElem hj1]; rfl
              have cP := rs_pend (hB.after hbq) j hlt
              obtain ⟨p, hp⟩ : ∃ p, (pend (M j).L.length (M j).V).length = p := ⟨_, rfl⟩
              rw [hp] at cP
              go_wp2_with (fail)
              refine cP.mono ?_
              rintro e w7 ⟨rfl, b7⟩
              clear cP
              by_cases hp0 : p = 0
              · subst hp0
                by_cases hj2 : j < l2.length
                · obtain ⟨b2, o2, rfl, lt2, cc2⟩ := cell2 j hj2
                  have cc2' := (((hB.after hbq).after b7).b.cell (p := ⟨b2, o2 + j, none⟩) lt2).trans cc2
                  have jl2 : (j : Int) < (l2.length : Int) := by omega
                  obtain ⟨fa, fn, fc, he2⟩ := (hD2.c _ (List.getElem_mem hj2)).1.slc
                  rw [he2] at cc2'
                  have eqv : elM M l1 l2 j = l2[j] := by
                    unfold elM
                    rw [if_pos ⟨hp, hj2⟩, List.getD_eq_getElem?_getD, List.getElem?_eq_getElem hj2]; rfl
                  obtain ⟨si, s1, s2, s3, s4⟩ := ints_is9
                  obtain ⟨v', w', hap, ho2, hb2⟩ := Own.push (P := Try.prog) (T := 31) Try.underlying31 s1 s2 s3 s4 rfl (ho.after b7) (elM M l1 l2 j).1 (oneCell_of (elM_ok hD1 hD2 M j).1) (Nat.le_trans hbq.size b7.size) (by rw [rowV_len]; omega) (by rw [rowV_len]; omega)
                  have hro : rowV j (fun i => (elM M l1 l2 i).1) ++ [(elM M l1 l2 j).1] = rowV (j + 1) fun i => (elM M l1 l2 i).1 := by
                    unfold rowV
                    rw [List.range_succ, List.map_append]; rfl
                  rw [hro] at ho2
                  rw [eqv, he2] at hap
                  have hrel2 := Lib.hid (And.intro ((hbq.trans (b7.mono hbq.size)).trans hb2) ho2)
                  clear hro ho2 hb2 s1 s2 s3 s4 ho hbq b7
                  go_wp2_with (at_builtin; refine wpList_append_run hap _ _ rfl rfl rfl rfl rfl ?_)
                  go_roundw
                  case rel => exact ⟨j + 1, v', rfl, by omega, by go_num, hrel2.out⟩
                  case measure => simp [intOf]; omega
                · have jl2 : ¬ (j : Int) < (l2.length : Int) := by omega
                  have eqv : elM M l1 l2 j = l1[j] := by
                    unfold elM
                    rw [if_neg (fun h => hj2 h.2), eq1]
                  obtain ⟨si, s1, s2, s3, s4⟩ := ints_is9
                  obtain ⟨v', w', hap, ho2, hb2⟩ := Own.push (P := Try.prog) (T := 31) Try.underlying31 s1 s2 s3 s4 rfl (ho.after b7) (elM M l1 l2 j).1 (oneCell_of (elM_ok hD1 hD2 M j).1) (Nat.le_trans hbq.size b7.size) (by rw [rowV_len]; omega) (by rw [rowV_len]; omega)
                  have hro : rowV j (fun i => (elM M l1 l2 i).1) ++ [(elM M l1 l2 j).1] = rowV (j + 1) fun i => (elM M l1 l2 i).1 := by
                    unfold rowV
                    rw [List.range_succ, List.map_append]; rfl
                  rw [hro] at ho2
                  rw [eqv, he1] at hap
                  have hrel2 := Lib.hid (And.intro ((hbq.trans (b7.mono hbq.size)).trans hb2) ho2)
                  clear hro ho2 hb2 s1 s2 s3 s4 ho hbq b7
                  go_wp2_with (at_builtin; refine wpList_append_run hap _ _ rfl rfl rfl rfl rfl ?_)
                  go_roundw
                  case rel => exact ⟨j + 1, v', rfl, by omega, by go_num, hrel2.out⟩
                  case measure => simp [intOf]; omega
              · have hp1 : ((p : Int) == 0) = false := by rw [beq_eq_false_iff_ne]; omega
                have eqv : elM M l1 l2 j = l1[j] := by
                  unfold elM
                  rw [if_neg (fun h => hp0 (hp ▸ h.1)), eq1]
                obtain ⟨si, s1, s2, s3, s4⟩ := ints_is9
                obtain ⟨v', w', hap, ho2, hb2⟩ := Own.push (P := Try.prog) (T := 31) Try.underlying31 s1 s2 s3 s4 rfl (ho.after b7) (elM M l1 l2 j).1 (oneCell_of (elM_ok hD1 hD2 M j).1) (Nat.le_trans hbq.size b7.size) (by rw [rowV_len]; omega) (by rw [rowV_len]; omega)
                have hro : rowV j (fun i => (elM M l1 l2 i).1) ++ [(elM M l1 l2 j).1] = rowV (j + 1) fun i => (elM M l1 l2 i).1 := by
                  unfold rowV
                  rw [List.range_succ, List.map_append]; rfl
                rw [hro] at ho2
                rw [eqv, he1] at hap
                have hrel2 := Lib.hid (And.intro ((hbq.trans (b7.mono hbq.size)).trans hb2) ho2)
                clear hro ho2 hb2 s1 s2 s3 s4 ho hbq b7
                go_wp2_with (at_builtin; refine wpList_append_run hap _ _ rfl rfl rfl rfl rfl ?_)
                go_roundw
                case rel => exact ⟨j + 1, v', rfl, by omega, by go_num, hrel2.out⟩
                case measure => simp [intOf]; omega
            · skip
              have jl1 : ¬ (j : Int) < (l1.length : Int) := by omega
              have eq1 : l1.getD j dfl = dfl := by rw [List.getD_eq_getElem?_getD, List.getElem?_eq_none (by omega)]; rfl
              have cP := rs_pend (hB.after hbq) j hlt
              obtain ⟨p, hp⟩ : ∃ p, (pend (M j).L.length (M j).V).length = p := ⟨_, rfl⟩
              rw [hp] at cP
              go_wp2_with (fail)
              refine cP.mono ?_
              rintro e w7 ⟨rfl, b7⟩
              clear cP
              by_cases hp0 : p = 0
              · subst hp0
                by_cases hj2 : j < l2.length
                · obtain ⟨b2, o2, rfl, lt2, cc2⟩ := cell2 j hj2
                  have cc2' := (((hB.after hbq).after b7).b.cell (p := ⟨b2, o2 + j, none⟩) lt2).trans cc2
                  have jl2 : (j : Int) < (l2.length : Int) := by omega
                  obtain ⟨fa, fn, fc, he2⟩ := (hD2.c _ (List.getElem_mem hj2)).1.slc
                  rw [he2] at cc2'
                  have eqv : elM M l1 l2 j = l2[j] := by
                    unfold elM
                    rw [if_pos ⟨hp, hj2⟩, List.getD_eq_getElem?_getD, List.getElem?_eq_getElem hj2]; rfl
                  obtain ⟨si, s1, s2, s3, s4⟩ := ints_is9
                  obtain ⟨v', w', hap, ho2, hb2⟩ := Own.push (P := Try.prog) (T := 31) Try.underlying31 s1 s2 s3 s4 rfl (ho.after b7) (elM M l1 l2 j).1 (oneCell_of (elM_ok hD1 hD2 M j).1) (Nat.le_trans hbq.size b7.size) (by rw [rowV_len]; omega) (by rw [rowV_len]; omega)
                  have hro : rowV j (fun i => (elM M l1 l2 i).1) ++ [(elM M l1 l2 j).1] = rowV (j + 1) fun i => (elM M l1 l2 i).1 := by
                    unfold rowV
                    rw [List.range_succ, List.map_append]; rfl
                  rw [hro] at ho2
                  rw [eqv, he2] at hap
                  have hrel2 := Lib.hid (And.intro ((hbq.trans (b7.mono hbq.size)).trans hb2) ho2)
                  clear hro ho2 hb2 s1 s2 s3 s4 ho hbq b7
                  go_wp2_with (at_builtin; refine wpList_append_run hap _ _ rfl rfl rfl rfl rfl ?_)
                  go_roundw
                  case rel => exact ⟨j + 1, v', rfl, by omega, by go_num, hrel2.out⟩
                  case measure => simp [intOf]; omega
                · have jl2 : ¬ (j : Int) < (l2.length : Int) := by omega
                  have eqv : elM M l1 l2 j = dfl := by
                    unfold elM
                    rw [if_neg (fun h => hj2 h.2), eq1]
                  obtain ⟨si, s1, s2, s3, s4⟩ := ints_is9
                  obtain ⟨v', w', hap, ho2, hb2⟩ := Own.push (P := Try.prog) (T := 31) Try.underlying31 s1 s2 s3 s4 rfl (ho.after b7) (elM M l1 l2 j).1 (oneCell_of (elM_ok hD1 hD2 M j).1) (Nat.le_trans hbq.size b7.size) (by rw [rowV_len]; omega) (by rw [rowV_len]; omega)
                  have hro : rowV j (fun i => (elM M l1 l2 i).1) ++ [(elM M l1 l2 j).1] = rowV (j + 1) fun i => (elM M l1 l2 i).1 := by
                    unfold rowV
                    rw [List.range_succ, List.map_append]; rfl
                  rw [hro] at ho2
                  rw [eqv, show dfl.1 = Value.slice none 0 0 from rfl] at hap
                  have hrel2 := Lib.hid (And.intro ((hbq.trans (b7.mono hbq.size)).trans hb2) ho2)
                  clear hro ho2 hb2 s1 s2 s3 s4 ho hbq b7
                  go_wp2_with (at_builtin; refine wpList_append_run hap _ _ rfl rfl rfl rfl rfl ?_)
                  go_roundw
                  case rel => exact ⟨j + 1, v', rfl, by omega, by go_num, hrel2.out⟩
                  case measure => simp [intOf]; omega
              · have hp1 : ((p : Int) == 0) = false := by rw [beq_eq_false_iff_ne]; omega
                have eqv : elM M l1 l2 j = dfl := by
                  unfold elM
                  rw [if_neg (fun h => hp0 (hp ▸ h.1)), eq1]
                obtain ⟨si, s1, s2, s3, s4⟩ := ints_is9
                obtain ⟨v', w', hap, ho2, hb2⟩ := Own.push (P := Try.prog) (T := 31) Try.underlying31 s1 s2 s3 s4 rfl (ho.after b7) (elM M l1 l2 j).1 (oneCell_of (elM_ok hD1 hD2 M j).1) (Nat.le_trans hbq.size b7.size) (by rw [rowV_len]; omega) (by rw [rowV_len]; omega)
                have hro : rowV j (fun i => (elM M l1 l2 i).1) ++ [(elM M l1 l2 j).1] = rowV (j + 1) fun i => (elM M l1 l2 i).1 := by
                  unfold rowV
                  rw [List.range_succ, List.map_append]; rfl
                rw [hro] at ho2
                rw [eqv, show dfl.1 = Value.slice none 0 0 from rfl] at hap
                have hrel2 := Lib.hid (And.intro ((hbq.trans (b7.mono hbq.size)).trans hb2) ho2)
                clear hro ho2 hb2 s1 s2 s3 s4 ho hbq b7
                go_wp2_with (at_builtin; refine wpList_append_run hap _ _ rfl rfl rfl rfl rfl ?_)
                go_roundw
                case rel => exact ⟨j + 1, v', rfl, by omega, by go_num, hrel2.out⟩
                case measure => simp [intOf]; omega
          · have hj3 : j = 3 := by omega
            have j3 : ¬ ((j : Int) < 3) := by omega
            rw [hj3] at ho
            have hA5 := hA.after hbq
            have hB5 := hB.after hbq
            have cR1 := rs_restart hA5 _ l1 (hD1.below hA5.b) (hD1.old hA5.f) hn1 (fun i hi z => by obtain ⟨L, V, h1, _, h3⟩ := hG i hi; rw [h1]; have := h3 z; show (V z).length ≤ _; omega)
            obtain ⟨C, hC, hC5⟩ := hG.crash l1
            have hu : ∀ b, u.ownBlock = some b → ¬ S b ∧ ¬ T b := fun b hb => ⟨fun hs => by have := hA.lt b hs; have := (ho.o.lt b hb).1; omega, fun hs => by have := hB.lt b hs; have := (ho.o.lt b hb).1; omega⟩
            clear hbq hj hj3 hlt hA hB
            go_wp2_with (fail)
            refine cR1.mono ?_
            rintro e w6 ⟨rfl, hs6, hA60⟩
            have hA6 := hA60.congr (M' := liveM C) (fun i hi => (hC i hi).symm)
            obtain ⟨hB6, hST6⟩ := hB5.step hs6 hA5.f hST
            have ho6 := ho.sameAt fun b hb => hs6.oth b (ho.o.lt b hb).2 (hu b hb).1
            have hin : ∀ i, elM M l1 l2 i = elM M l1 l2 i := fun _ => rfl
            have hmem : ∀ x ∈ (List.range 3).map (elM M l1 l2), ∃ i, x = elM M l1 l2 i := fun x hx => by obtain ⟨i, _, rfl⟩ := List.mem_map.1 hx; exact ⟨i, rfl⟩
            have hch : ChR w6 u ((List.range 3).map (elM M l1 l2)) := by
              refine ⟨?_, fun x hx => ?_⟩
              · have := ho6.reads
                unfold rowV at this
                rw [List.map_map]; exact this
              · obtain ⟨i, rfl⟩ := hmem x hx
                have := elM_ok hD1 hD2 M i
                exact ⟨this.1.below hB6.b, this.2⟩
            have hca : ChA u ((List.range 3).map (elM M l1 l2)) T := ⟨fun _ b hb => (hu b hb).2, fun x hx hne b hb ht => by
              obtain ⟨i, rfl⟩ := hmem x hx
              have := (elM_ok hD1 hD2 M i).1.blk (by simpa using hne) b hb
              have := hB6.f b ht
              omega⟩
            have cR2 := rs_restart hB6 u _ hch hca (by simp) (fun i hi z => by obtain ⟨L, V, h1, _, h3⟩ := hG i hi; rw [h1]; have := h3 z; show (V z).length ≤ _; omega)
            have hcb : ∀ i, i < 3 → liveM C i = crashM (M i) (chs ((List.range 3).map (elM M l1 l2)) i) := fun i hi => by
              have e : chs ((List.range 3).map (elM M l1 l2)) i = (elM M l1 l2 i).2 := by
                unfold chs
                rw [List.getD_eq_getElem?_getD, List.getElem?_map, List.getElem?_range hi]; rfl
              rw [e, elM_crash]; exact (hC i hi).symm
            clear hA60 hA5 hB5 ho hs6 ho6 hin hmem hch hca cR1 hD1 hD2 hn1 hn2 hG hC cell1 cell2
            go_wp2_with (fail)
            refine cR2.mono ?_
            rintro e w7 ⟨rfl, hs7, hB70⟩
            have hB7 := hB70.congr hcb
            obtain ⟨hA7, _⟩ := hA6.step hs7 hB6.f (fun x h1 h2 => hST6 x h2 h1)
            clear hB70 hcb hs7 cR2 hA6 hB6 hu j3
            go_wp2_with (fail)
            go_loopw [18] (fun t wq => ∃ (j : Nat), j ≤ 3 ∧ t = .int .i64 (j : Int) ∧ RS w1 S wq ka 3 (liveM C) false (k : Int) 0 ∧ RS w1 T wq kb 3 (liveM C) false (k : Int) 0) (fun t _ => 3 - (intOf t).toNat)
            case atStart => exact ⟨0, by omega, rfl, hA7, hB7⟩
            case round =>
              clear hA7 hB7
              obtain ⟨j, hj, rfl, hA, hB⟩ := hrel
              by_cases hlt : j < 3
              · have j1 : (j : Int) < 3 := by omega
                have hLj := hC5 j hlt
                go_wp2_with (fail)
                refine (rs_image hA j hlt (L := C j) (V := noV) rfl).mono ?_
                rintro e w8 ⟨x, rfl, b8, o8⟩
                rw [hLj] at o8 ⊢
                have hA8 := hA.after b8
                have hB8 := hB.after b8
                clear hA hB b8
                go_wp2_with (fail)
                refine (rs_image hB8 j hlt (L := C j) (V := noV) rfl).mono ?_
                rintro e w9 ⟨y, rfl, b9, o9⟩
                rw [hLj] at o9 ⊢
                have hA9 := hA8.after b9
                have hB9 := hB8.after b9
                have hsame := same_any _ _ _ _ w9 (o8.reads.below b9) o9.reads (by omega) (by omega)
                rw [decide_eq_true rfl] at hsame
                clear hA8 hB8 b9 o8 o9
                go_wp2_with (fail)
                refine hsame.mono ?_
                rintro e w10 ⟨rfl, b10, _⟩
                have hA10 := hA9.after b10
                have hB10 := hB9.after b10
                have cP := rs_pend hA10 j hlt
                have e0 : (pend (liveM C j).L.length (liveM C j).V).length = 0 := by
                  show (pend (C j).length noV).length = 0
                  rw [pendN]; rfl
                rw [e0] at cP
                clear hA9 hB9 b10 hsame
                go_wp2_with (fail)
                refine cP.mono ?_
                rintro e w11 ⟨rfl, b11⟩
                have hrel2 := Lib.hid (And.intro (hA10.after b11) (hB10.after b11))
                clear hA10 hB10 b11 cP
                go_wp2_with (fail)
                go_roundw
                case rel => exact ⟨j + 1, by omega, by go_num, hrel2.out⟩
                case measure => simp [intOf]; omega
              · obtain rfl : j = 3 := by omega
                have hfin := Lib.hid (hb1H.out.trans (hA.b.mono hb1H.out.size))
                go_wp2_with (fail)
                refine (rs_acts hA).mono ?_
                rintro e w' ⟨rfl, rfl⟩
                go_wp2_with (fail)
                refine (rs_acts hB).mono ?_
                rintro e w' ⟨rfl, rfl⟩
                go_wp2_with (fail)
                refine (rs_acts hA).mono ?_
                rintro e w' ⟨rfl, rfl⟩
                clear hA hB
                go_wp2_with (fail)
                go_ret
                exact ⟨rfl, hfin.out⟩
end Go.Proofs.Ytomgbnbkfkjifaa

