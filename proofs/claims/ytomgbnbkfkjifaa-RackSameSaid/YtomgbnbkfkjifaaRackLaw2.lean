/- rack: RackArms. -/
import Derived.Test.YtomgbnbkfkjifaaRackRows2
namespace Go.Proofs.Ytomgbnbkfkjifaa
open Go.RowKit
set_option linter.unusedVariables false
set_option linter.unusedSimpArgs false
set_option maxRecDepth 100000

/-- What lasts, and what was written last. -/
def armD (M : Nat → Mst) : Nat → List ByteArray := fun i => if i < 3 then (M i).L else flush (M (i - 3)).L (M (i - 3)).V
theorem armD_lo (M : Nat → Mst) {i : Nat} (h : i < 3) : armD M i = (M i).L := if_pos h
theorem armD_hi (M : Nat → Mst) (i : Nat) : armD M (3 + i) = flush (M i).L (M i).V := by
  unfold armD
  rw [if_neg (by omega), show 3 + i - 3 = i by omega]
theorem armD_flush (M : Nat → Mst) (d : Nat) (hd : d < 3) {L : List ByteArray} {V : Int → List ByteArray} (hM : M d = ⟨false, L, V⟩) : ∀ i, i < 6 → armD (upd M d ⟨false, flush L V, noV⟩) i = upd (armD M) d (flush L V) i := fun i hi => by
  by_cases h3 : i < 3
  · rw [armD_lo _ h3]
    by_cases e : i = d
    · subst e; rw [upd_same, upd_same]
    · rw [upd_other _ _ _ _ e, upd_other _ _ _ _ e, armD_lo _ h3]
  · obtain ⟨j, rfl⟩ : ∃ j, i = 3 + j := ⟨i - 3, by omega⟩
    rw [armD_hi, upd_other (armD M) _ _ _ (show 3 + j ≠ d by omega), armD_hi]
    by_cases e : j = d
    · subst e; rw [upd_same, hM]; exact flushN _
    · rw [upd_other _ _ _ _ e]
theorem armD_write (M : Nat → Mst) (d : Nat) (hd : d < 3) {L : List ByteArray} {V : Int → List ByteArray} (hM : M d = ⟨false, L, V⟩) (a : Nat) (ha : a < L.length) (s : ByteArray) : ∀ i, i < 6 → armD (upd M d ⟨false, L, updZ V (a : Int) (V (a : Int) ++ [s])⟩) i = upd (armD M) (3 + d) ((armD M (3 + d)).set a s) i := fun i hi => by
  by_cases h3 : i < 3
  · rw [armD_lo _ h3, upd_other (armD M) _ _ _ (show i ≠ 3 + d by omega), armD_lo _ h3]
    by_cases e : i = d
    · subst e; rw [upd_same, hM]
    · rw [upd_other _ _ _ _ e]
  · obtain ⟨j, rfl⟩ : ∃ j, i = 3 + j := ⟨i - 3, by omega⟩
    rw [armD_hi]
    by_cases e : j = d
    · subst e
      rw [upd_same, upd_same, armD_hi, hM]
      exact flush_write L V a ha s
    · rw [upd_other _ _ _ _ e, upd_other (armD M) _ _ _ (show 3 + j ≠ 3 + d by omega), armD_hi]
theorem GoodM.flush {M : Nat → Mst} {n s c : Nat} (h : GoodM M n s c) (d : Nat) {L : List ByteArray} (V : Int → List ByteArray) (hL : L.length = s) : GoodM (upd M d ⟨false, Go.Proofs.Ytomgbnbkfkjifaa.flush L V, noV⟩) n s (c + 1) := fun i hi => by
  by_cases e : i = d
  · subst e
    exact ⟨_, _, upd_same _ _ _, by rw [flushN_len]; exact hL, fun z => by simp [noV]⟩
  · obtain ⟨L', V', h1, h2, h3⟩ := h i hi
    exact ⟨L', V', by rw [upd_other _ _ _ _ e]; exact h1, h2, fun z => by have := h3 z; omega⟩
theorem nxt_pos {a : Int} (h : a ≠ 0) : nxt a = a - 1 := if_neg h
/-- Where it stands: on, or off. -/
def Ph (off : Bool) (dn nn : Nat) (acts armed : Int) : Prop := (off = false ∧ dn + 1 ≤ nn ∧ acts = dn ∧ armed = (nn : Int) - dn) ∨ (off = true ∧ dn + 1 = nn ∧ acts = nn ∧ armed = 0)
set_option maxHeartbeats 4000000 in
theorem arms_walk (v : Value) (ls : List Int) (a1 : Int) (w : World) (hR : Reads w v (ls.map (.int .i64))) (hF : ∀ n ∈ ls, (Lit.int .i64 n).wf = true) (n1 : -9223372036854775808 ≤ a1 ∧ a1 ≤ 9223372036854775807) :
    Calls Try.prog 5 #[v, .int .i64 a1] w (Ends w true) := by
  have cN : ∀ W, Calls Try.prog 9 #[.int .i64 3, .int .i64 5] W fun e w' => ∃ S k, e = .returned (.tuple #[.pointer (some ⟨k, 0, none⟩), .int .i64 0]) ∧ RS W S w' k 3 (blankM 5) false 0 0 := fun W => rs_new 3 5 W (by omega) (by omega) (by omega) (by omega)
  have hIn : ∀ k, k < ls.length → In64 (ls.getD k 0) := fun k hk => by
    rw [List.getD_eq_getElem?_getD, List.getElem?_eq_getElem hk]; exact hF _ (List.getElem_mem hk)
  have hlenv := fun W => hR.len_run (P := Try.prog) Try.underlying48 3 W
  rw [List.length_map] at hlenv
  obtain ⟨r, hr⟩ : ∃ r, pickC a1 % 60 = r := ⟨_, rfl⟩
  have hr60 : r < 60 := by rw [← hr]; exact Nat.mod_lt _ (by omega)
  have cpn : ∀ W, Calls Try.prog 11 #[.int .i64 a1, .int .i64 60] W fun e w' => e = .returned (.int .i64 (r : Int)) ∧ W = w' := fun W => by
    have := pick9_any a1 60 (in64_iff.2 n1) (by omega) (by omega) W
    rw [hr] at this; exact this
  obtain ⟨nn, hnn⟩ : ∃ nn, r + 1 = nn := ⟨_, rfl⟩
  have hn60 : nn ≤ 60 := by omega
  have hn0 : 1 ≤ nn := by omega
  have wn : IntKind.i64.wrap (1 + (r : Int)) = (nn : Int) := wrap_add _ _ (by omega) (by omega) (by omega)
  clear hF n1 hr hr60 hnn
  have hZ : (List.replicate 5 zero128).length = 5 := by simp
  go_enter Try.func5, Try.ntmps5
  go_wp2_with (fail)
  refine (awake9_any _).mono ?_
  rintro e w1 ⟨rfl, b1⟩
  have hR1 := hR.below b1
  go_wp2_with (fail)
  refine (cN _).mono ?_
  rintro e w2 ⟨S0, kk, rfl, h1⟩
  have hb1H := Lib.hid b1
  clear b1 cN hR
  go_wp2_with (fail)
  refine (cpn _).mono ?_
  rintro e w' ⟨rfl, rfl⟩
  go_wp2_with (fail)
  refine (rs_arm h1 (nn : Int) (by omega)).mono ?_
  rintro e w3 ⟨S, rfl, _, h3⟩
  obtain ⟨ti, t1, t2, t3, t4⟩ := strs_is9
  obtain ⟨w4, hmk, hO, hb4⟩ := Own.make_run (P := Try.prog) (T := 49) Try.underlying49 t1 t2 t3 t4 rfl w3 3 (by omega) (by omega)
  obtain ⟨x, hx⟩ : ∃ x, w3.heap.size = x := ⟨_, rfl⟩
  rw [hx] at hmk hO
  replace hmk : (Instr.makeSlice 49 (.int .i64 3) (.int .i64 3)).run Try.prog w3 = .ok (.slice (some ⟨x, 0, none⟩) 3 3) w4 := hmk
  have hx1 : w1.heap.size ≤ x := by rw [← hx]; exact h3.b.size
  have hxS : ¬ S x := fun hs => by have := h3.lt x hs; omega
  have h4 := h3.after hb4
  have hO4 := hO.mono hx1
  rw [rowV_rep] at hO4
  have hW0 : Rw6 w4 w1.heap.size 6 S x x (fun _ => .slice none 0 0) (fun _ => []) := ⟨fun i _ => Own.nil _ _ _, fun i j _ _ _ => Apart.nil _, fun i _ k hk => by cases hk⟩
  clear h1 h3 hb4 hO hx cpn wn t1 t2 t3 t4
  go_wp2_with (fail)
  go_loopw [9] (fun t wr => ∃ (j : Nat) (U : Nat → Value), j ≤ 3 ∧ t = .int .i64 (j : Int) ∧ RS w1 S wr kk 3 (blankM 5) false 0 (nn : Int) ∧ Own wr w1.heap.size 44 (.slice (some ⟨x, 0, none⟩) 3 3) (rowV 3 U) ∧ Rw6 wr w1.heap.size 6 S x x U (fun i => if i < j then List.replicate 5 zero128 else []) ∧ ∀ i, j ≤ i → U i = .slice none 0 0) (fun t _ => 3 - (intOf t).toNat)
  case atStart => exact ⟨0, _, by omega, rfl, h4, hO4, ⟨fun i hi => by rw [if_neg (by omega)]; exact hW0.r i hi, hW0.ap, hW0.nb⟩, fun i _ => rfl⟩
  case round =>
    clear h4 hO4 hW0 hmk
    obtain ⟨j, U, hj, rfl, hB, hO, hW, hU⟩ := hrel
    by_cases hlt : j < 3
    · have j1 : (j : Int) < 3 := by omega
      have cI := rs_image hB j hlt (L := List.replicate 5 zero128) (V := noV) rfl
      go_wp2_with (fail)
      refine cI.mono ?_
      rintro e w5 ⟨y, rfl, b5, o5⟩
      rw [hZ] at o5 ⊢
      have hB5 := (hB.after b5).setO hx1 hxS j (.slice (some ⟨y, 0, none⟩) 5 5)
      have p := (hW.put hB.b.size b5 o5 hB.lt hO.lt.2 hO.lt.2 j).setO (.inl rfl) j (.slice (some ⟨y, 0, none⟩) 5 5)
      have hO5 := hO.after b5
      have cx := hO5.cell (i := j) (by rw [rowV_len]; exact hlt)
      rw [rowV_get _ _ _ hlt, hU j (Nat.le_refl j)] at cx
      have fx := hO5.frozen j
      have hO6 := hO5.set j (.slice (some ⟨y, 0, none⟩) 5 5)
      rw [rowV_set 3 U (upd U j (.slice (some ⟨y, 0, none⟩) 5 5)) j _ (upd_same _ _ _) (fun i hi => upd_other _ _ _ _ hi)] at hO6
      have hW6 : Rw6 (w5.setCell ⟨x, j, none⟩ (.slice (some ⟨y, 0, none⟩) 5 5)) w1.heap.size 6 S x x (upd U j (.slice (some ⟨y, 0, none⟩) 5 5)) (fun i => if i < j + 1 then List.replicate 5 zero128 else []) := ⟨fun i hi => by
        have := p.r i hi
        by_cases e : i = j
        · subst e; simp only [upd_same] at this ⊢; rw [if_pos (by omega)]; exact this
        · rw [upd_other (fun i => if i < j then List.replicate 5 zero128 else []) _ _ _ e] at this
          have e3 : (if i < j + 1 then List.replicate 5 zero128 else []) = (if i < j then List.replicate 5 zero128 else []) := by
            by_cases e2 : i < j
            · rw [if_pos e2, if_pos (by omega)]
            · rw [if_neg e2, if_neg (by omega)]
          rw [e3]; exact this, p.ap, p.nb⟩
      have hU6 : ∀ i, j + 1 ≤ i → upd U j (.slice (some ⟨y, 0, none⟩) 5 5) i = .slice none 0 0 := fun i hi => by rw [upd_other _ _ _ _ (by omega)]; exact hU i (by omega)
      have hrel2 := Lib.hid (And.intro hB5 (And.intro hO6 (And.intro hW6 hU6)))
      clear hB hB5 hO hO5 hO6 hW hW6 hU hU6 p cI b5 o5
      go_wp2_with (fail)
      go_roundw
      case rel => exact ⟨j + 1, _, by omega, by go_num, hrel2.out⟩
      case measure => simp [intOf]; omega
    · have hj3 : j = 3 := by omega
      have j3 : ¬ ((j : Int) < 3) := by omega
      obtain ⟨ti, t1, t2, t3, t4⟩ := strs_is9
      obtain ⟨w4, hmk, hO2, hb4⟩ := Own.make_run (P := Try.prog) (T := 49) Try.underlying49 t1 t2 t3 t4 rfl wr 3 (by omega) (by omega)
      obtain ⟨y, hy⟩ : ∃ y, wr.heap.size = y := ⟨_, rfl⟩
      rw [hy] at hmk hO2
      replace hmk : (Instr.makeSlice 49 (.int .i64 3) (.int .i64 3)).run Try.prog wr = .ok (.slice (some ⟨y, 0, none⟩) 3 3) w4 := hmk
      have hB4 := hB.after hb4
      have hT4 : TB w4 w1.heap.size S x y (fun i => if i < 3 then List.replicate 5 zero128 else []) := by
        refine ⟨⟨U, hO.after hb4, ?_, ⟨fun i hi => ?_, hW.ap, fun i hi k hk => ⟨(hW.nb i hi k hk).1, (hW.nb i hi k hk).2.1, ?_⟩⟩⟩, hxS, fun hs => by have := hB.lt y hs; omega, by have := hO.lt.2; omega⟩
        · have e : (rowV 3 fun i => U (3 + i)) = List.replicate 3 (.slice none 0 0) := by
            rw [rowV_rep]
            unfold rowV
            exact List.map_congr_left fun i _ => hU (3 + i) (by omega)
          rw [e]
          exact hO2.mono (by rw [← hy]; exact hB.b.size)
        · have := (hW.r i hi).after hb4
          rw [hj3] at this; exact this
        · have := ((hW.r i hi).o.lt k hk).2; omega
      clear hO2 hb4 hB hO hW hU hy hlt hj hj3 t1 t2 t3 t4
      go_wp2_with (fail)
      go_loopw [11] (fun t wr => ∃ (j : Nat), j ≤ 3 ∧ t = .int .i64 (j : Int) ∧ RS w1 S wr kk 3 (blankM 5) false 0 (nn : Int) ∧ TB wr w1.heap.size S x y (fun i => if i < 3 + j then List.replicate 5 zero128 else [])) (fun t _ => 3 - (intOf t).toNat)
      case atStart => exact ⟨0, by omega, rfl, hB4, hT4⟩
      case round =>
        clear hB4 hT4 hmk j3
        obtain ⟨j, hj, rfl, hB, hT⟩ := hrel
        by_cases hlt : j < 3
        · have j1 : (j : Int) < 3 := by omega
          obtain ⟨u, cx, ou⟩ := hT.at1 hlt
          have e0 : (if j < 3 + j then List.replicate 5 zero128 else []) = List.replicate 5 zero128 := if_pos (by omega)
          rw [e0] at ou
          obtain ⟨g, c, w5, hap, o5, b5⟩ := copy_row ou.reads (by rw [hZ]; omega) (by rw [hZ]; omega)
          rw [hZ] at hap o5
          obtain ⟨u2, cy, _, _⟩ := (hT.after b5).at2 hlt
          have fy := (hT.after b5).f2 j
          have hT2 := hT.put2 hB.b.size b5 o5 hB.lt hlt
          have hT3 : TB (w5.setCell ⟨y, j, none⟩ (.slice (some ⟨g, 0, none⟩) 5 c)) w1.heap.size S x y (fun i => if i < 3 + (j + 1) then List.replicate 5 zero128 else []) := hT2.congr (fun i _ => by
            by_cases e : i = 3 + j
            · subst e; rw [upd_same, if_pos (by omega)]
            · rw [upd_other _ _ _ _ e]
              show (if i < 3 + (j + 1) then _ else _) = (if i < 3 + j then _ else _)
              by_cases e2 : i < 3 + j
              · rw [if_pos e2, if_pos (by omega)]
              · rw [if_neg e2, if_neg (by omega)])
          have hB3 := (hB.after b5).setO hT.lt.2.1 hT.sy j (.slice (some ⟨g, 0, none⟩) 5 c)
          have hrel2 := Lib.hid (And.intro hB3 hT3)
          clear hB hB3 hT hT2 hT3 ou o5 b5 e0
          go_wp2_with (at_builtin; refine wpList_append_run hap _ _ rfl rfl rfl rfl rfl ?_)
          go_roundw
          case rel => exact ⟨j + 1, by omega, by go_num, hrel2.out⟩
          case measure => simp [intOf]; omega
        · have hj3 : j = 3 := by omega
          have j3 : ¬ ((j : Int) < 3) := by omega
          have hT6 : TB wr w1.heap.size S x y (armD (blankM 5)) := hT.congr (fun i hi => by
            rw [hj3]
            show _ = (if i < 3 + 3 then _ else _)
            rw [if_pos (by omega)]
            unfold armD
            by_cases e : i < 3
            · rw [if_pos e]; rfl
            · rw [if_neg e]; exact flushN _)
          clear hT hlt hj hj3
          go_wp2_with (fail)
          go_loopw [13, 12] (fun t dv wr => ∃ (k dn : Nat) (S : Nat → Prop) (M : Nat → Mst) (off : Bool) (acts armed : Int), k ≤ 100 ∧ k ≤ ls.length ∧ t = .int .i64 (k : Int) ∧ dv = .int .i64 (dn : Int) ∧ Ph off dn nn acts armed ∧ RS w1 S wr kk 3 M off acts armed ∧ GoodM M 3 5 k ∧ TB wr w1.heap.size S x y (armD M)) (fun t _ _ => 100 - (intOf t).toNat)
          case atStart => exact ⟨0, 0, S, _, false, 0, _, by omega, by omega, rfl, rfl, .inl ⟨rfl, by omega, rfl, by simp⟩, hB, GoodM.start 3 5 0, hT6⟩
          case round =>
            clear hB hT6 j3 hxS hx1
            obtain ⟨k, dn, S, M, off, acts, armed, hk50, hkl, rfl, rfl, hPh, hB, hG, hT⟩ := hrel
            by_cases hlt : k < ls.length ∧ k < 100
            · obtain ⟨hl1, hl2⟩ := hlt
              obtain ⟨va, vcap, rfl, vcell⟩ := hR1.nums
              obtain ⟨cb, co, rfl, clt1, cc1⟩ := vcell k hl1
              have hcI := hIn k hl1
              obtain ⟨c, hc⟩ : ∃ c, ls.getD k 0 = c := ⟨_, rfl⟩
              rw [hc] at hcI cc1
              have cc0 := (hB.b.cell (p := ⟨cb, co + k, none⟩) clt1).trans cc1
              obtain ⟨cc, hcc⟩ : ∃ r, pickC c % 1048576 = r := ⟨_, rfl⟩
              have hccb : cc < 1048576 := by rw [← hcc]; exact Nat.mod_lt _ (by omega)
              have cp : ∀ W, Calls Try.prog 11 #[.int .i64 c, .int .i64 1048576] W fun e w' => e = .returned (.int .i64 (cc : Int)) ∧ W = w' := fun W => by
                have := pick9_any c 1048576 hcI (by omega) (by omega) W
                rw [hcc] at this; exact this
              obtain ⟨d, hd⟩ : ∃ d, cc % 3 = d := ⟨_, rfl⟩
              obtain ⟨q, hq⟩ : ∃ q, cc / 3 = q := ⟨_, rfl⟩
              obtain ⟨a, haa⟩ : ∃ a, q % 6 = a := ⟨_, rfl⟩
              have m1 : (cc : Int) % 3 = (d : Int) := by omega
              have m2 : ((cc : Int)).tmod 3 = (d : Int) := by rw [Int.tmod_eq_emod_of_nonneg (by omega)]; exact m1
              have m3 : (cc : Int) / 3 = (q : Int) := by omega
              have m4 : ((cc : Int)).tdiv 3 = (q : Int) := by rw [Int.tdiv_eq_ediv_of_nonneg (by omega)]; exact m3
              have m5 : IntKind.i64.wrap (q : Int) = (q : Int) := wrap_in (by omega) (by omega)
              have m6 : (q : Int) % 6 = (a : Int) := by omega
              have m7 : ((q : Int)).tmod 6 = (a : Int) := by rw [Int.tmod_eq_emod_of_nonneg (by omega)]; exact m6
              have hd3 : d < 3 := by omega
              have d1 : (d : Int) < 3 := by omega
              have ha6 : a < 6 := by omega
              have cS : ∀ W, Calls Try.prog 13 #[.int .i64 (cc : Int)] W (GivesS W (sec cc)) := fun W => sector_any cc (in64_iff.2 (by omega)) W
              have hs8 := sec_size cc
              have k1 : (k : Int) < (ls.length : Int) := by omega
              have k2 : (k : Int) < 100 := by omega
              obtain ⟨L, V, hM, hL5, hVk⟩ := hG d hd3
              clear hcc hccb hd hq haa hcI hIn vcell hc
              generalize sec cc = sq at *
              have wnn : IntKind.i64.wrap ((nn : Int) - 1) = (nn : Int) - 1 := wrap_in (by omega) (by omega)
              rcases hPh with ⟨rfl, hph, rfl, rfl⟩ | ⟨rfl, hph, rfl, rfl⟩
              · have hdn : (dn : Int) ≤ 60 := by omega
                have wdn : IntKind.i64.wrap ((dn : Int) + 1) = (dn : Int) + 1 := wrap_in (by omega) (by omega)
                by_cases h2 : dn + 2 ≤ nn
                · have p1 : ¬ ((nn : Int) - 1 ≤ (dn : Int)) := by omega
                  have p2 : decide ((nn : Int) - 1 ≤ (dn : Int)) = false := decide_eq_false p1
                  by_cases ha5 : a = 5
                  · subst ha5
                    go_wp2_with (fail)
                    refine (cp _).mono ?_
                    rintro e w4 ⟨rfl, rfl⟩
                    clear cc0 cp
                    go_wp2_with (fail)
                    refine (cS _).mono ?_
                    rintro e w5 ⟨rfl, b5⟩
                    have hB2 := hB.after b5
                    have hT2 := hT.after b5
                    clear hB hT b5
                    go_wp2_with (fail)
                    refine (rs_flush hB2 d hd3 (by omega) (by omega) (by omega) hM (fun z => by have := hVk z; omega)).mono ?_
                    rintro e w6 ⟨S6, rfl, hs6, hB3⟩
                    rw [nxt_pos (by omega)] at hB3
                    have hT3 := hT2.step hs6
                    clear hB2 hT2 hs6
                    go_wp2_with (fail)
                    refine (rs_off hB3).mono ?_
                    rintro e w' ⟨rfl, rfl⟩
                    obtain ⟨u2, cy, ou, _⟩ := hT3.at2 hd3
                    rw [armD_hi, hM] at ou
                    replace ou : Own w6 w1.heap.size 9 u2 ((flush L V).map .string) := ou
                    have hfl : (flush L V).length = 5 := by rw [flushN_len]; exact hL5
                    obtain ⟨g, c2, w7, hap, o7, b7⟩ := copy_row ou.reads (by rw [hfl]; omega) (by rw [hfl]; omega)
                    rw [hfl] at hap o7
                    obtain ⟨u1, cx, _⟩ := (hT3.after b7).at1 hd3
                    have fx := (hT3.after b7).f1 d
                    have hT4 := (hT3.put1 hB3.b.size b7 o7 hB3.lt hd3).congr (armD_flush M d hd3 hM)
                    have hB4 := (hB3.after b7).setO hT3.lt.1.1 hT3.sx d (.slice (some ⟨g, 0, none⟩) 5 c2)
                    have hG4 := hG.flush d V hL5
                    have hB5 : RS w1 S6 (w7.setCell ⟨x, d, none⟩ (.slice (some ⟨g, 0, none⟩) 5 c2)) kk 3 (upd M d ⟨false, flush L V, noV⟩) false ((dn + 1 : Nat) : Int) ((nn : Int) - ((dn + 1 : Nat) : Int)) := by
                      have e1 : ((dn + 1 : Nat) : Int) = (dn : Int) + 1 := by omega
                      rw [e1, show (nn : Int) - ((dn : Int) + 1) = (nn : Int) - (dn : Int) - 1 by omega]; exact hB4
                    have hrel2 := Lib.hid (And.intro hB5 (And.intro hG4 hT4))
                    clear hB3 hB4 hB5 hT3 hT4 hG hG4 ou o7 b7 hM hfl hVk
                    go_wp2_with (at_builtin; refine wpList_append_run hap _ _ rfl rfl rfl rfl rfl ?_)
                    go_roundw
                    case rel => exact ⟨k + 1, dn + 1, S6, _, false, _, _, by omega, by omega, by go_num, by go_num, .inl ⟨rfl, by omega, rfl, rfl⟩, hrel2.out⟩
                    case measure => simp [intOf]; omega
                  · have ha1 : ((a : Int) == 5) = false := by rw [beq_eq_false_iff_ne]; omega
                    have ha2 : a < 5 := by omega
                    have ha3 : (a : Int) < 5 := by omega
                    clear ha5
                    go_wp2_with (fail)
                    refine (cp _).mono ?_
                    rintro e w4 ⟨rfl, rfl⟩
                    clear cc0 cp
                    go_wp2_with (fail)
                    refine (cS _).mono ?_
                    rintro e w5 ⟨rfl, b5⟩
                    have hB2 := hB.after b5
                    have hT2 := hT.after b5
                    clear hB hT b5
                    go_wp2_with (fail)
                    refine (rs_write hB2 d hd3 (by omega) (by omega) (by omega) hM a (by omega) sq hs8 (by have := hVk a; omega)).mono ?_
                    rintro e w6 ⟨S6, rfl, hs6, hB3⟩
                    rw [nxt_pos (by omega)] at hB3
                    have hT3 := hT2.step hs6
                    clear hB2 hT2 hs6
                    go_wp2_with (fail)
                    refine (rs_off hB3).mono ?_
                    rintro e w' ⟨rfl, rfl⟩
                    have hl5 : (armD M (3 + d)).length = 5 := by rw [armD_hi, hM]; exact (flushN_len L V).trans hL5
                    obtain ⟨g, c2, old, cy, cg, fg, hg1, hgS, hT4⟩ := hT3.set2 hd3 a (by rw [hl5]; exact ha2) sq
                    rw [hl5] at cy
                    have hT5 := hT4.congr (armD_write M d hd3 hM a (by omega) sq)
                    have hB4 := hB3.setO hg1 hgS a (.string sq)
                    have hG4 := hG.write d hL5 hVk (a : Int) sq
                    have hB5 : RS w1 S6 (w6.setCell ⟨g, a, none⟩ (.string sq)) kk 3 (upd M d ⟨false, L, updZ V (a : Int) (V (a : Int) ++ [sq])⟩) false ((dn + 1 : Nat) : Int) ((nn : Int) - ((dn + 1 : Nat) : Int)) := by
                      have e1 : ((dn + 1 : Nat) : Int) = (dn : Int) + 1 := by omega
                      rw [e1, show (nn : Int) - ((dn : Int) + 1) = (nn : Int) - (dn : Int) - 1 by omega]; exact hB4
                    have hrel2 := Lib.hid (And.intro hB5 (And.intro hG4 hT5))
                    clear hB3 hB4 hB5 hT3 hT4 hT5 hG hG4 hM hVk hl5
                    go_wp2_with (fail)
                    go_roundw
                    case rel => exact ⟨k + 1, dn + 1, S6, _, false, _, _, by omega, by omega, by go_num, by go_num, .inl ⟨rfl, by omega, rfl, rfl⟩, hrel2.out⟩
                    case measure => simp [intOf]; omega
                · have p1 : (nn : Int) - 1 ≤ (dn : Int) := by omega
                  have p2 : decide ((nn : Int) - 1 ≤ (dn : Int)) = true := decide_eq_true p1
                  have harm : (nn : Int) - (dn : Int) = 1 := by omega
                  rw [harm] at hB
                  by_cases ha5 : a = 5
                  · subst ha5
                    go_wp2_with (fail)
                    refine (cp _).mono ?_
                    rintro e w4 ⟨rfl, rfl⟩
                    clear cc0 cp
                    go_wp2_with (fail)
                    refine (cS _).mono ?_
                    rintro e w5 ⟨rfl, b5⟩
                    have hB2 := hB.after b5
                    have hT2 := hT.after b5
                    clear hB hT b5
                    go_wp2_with (fail)
                    refine (rs_flushl hB2 d hd3 (by omega)).mono ?_
                    rintro e w6 ⟨S6, rfl, hs6, hB3⟩
                    have hT3 := hT2.step hs6
                    clear hB2 hT2 hs6
                    go_wp2_with (fail)
                    refine (rs_off hB3).mono ?_
                    rintro e w' ⟨rfl, rfl⟩
                    have hB5 : RS w1 S6 w6 kk 3 M true (nn : Int) 0 := by
                      rw [show (nn : Int) = (dn : Int) + 1 by omega]; exact hB3
                    have hrel2 := Lib.hid (And.intro hB5 (And.intro (hG.mono (Nat.le_succ k)) hT3))
                    clear hB3 hB5 hT3 hG hM hVk
                    go_wp2_with (fail)
                    go_roundw
                    case rel => exact ⟨k + 1, dn, S6, _, true, _, _, by omega, by omega, by go_num, rfl, .inr ⟨rfl, by omega, rfl, rfl⟩, hrel2.out⟩
                    case measure => simp [intOf]; omega
                  · have ha1 : ((a : Int) == 5) = false := by rw [beq_eq_false_iff_ne]; omega
                    clear ha5
                    go_wp2_with (fail)
                    refine (cp _).mono ?_
                    rintro e w4 ⟨rfl, rfl⟩
                    clear cc0 cp
                    go_wp2_with (fail)
                    refine (cS _).mono ?_
                    rintro e w5 ⟨rfl, b5⟩
                    have hB2 := hB.after b5
                    have hT2 := hT.after b5
                    clear hB hT b5
                    go_wp2_with (fail)
                    refine (rs_writel hB2 d hd3 (by omega) (a : Int) sq).mono ?_
                    rintro e w6 ⟨S6, rfl, hs6, hB3⟩
                    have hT3 := hT2.step hs6
                    clear hB2 hT2 hs6
                    go_wp2_with (fail)
                    refine (rs_off hB3).mono ?_
                    rintro e w' ⟨rfl, rfl⟩
                    have hB5 : RS w1 S6 w6 kk 3 M true (nn : Int) 0 := by
                      rw [show (nn : Int) = (dn : Int) + 1 by omega]; exact hB3
                    have hrel2 := Lib.hid (And.intro hB5 (And.intro (hG.mono (Nat.le_succ k)) hT3))
                    clear hB3 hB5 hT3 hG hM hVk
                    go_wp2_with (fail)
                    go_roundw
                    case rel => exact ⟨k + 1, dn, S6, _, true, _, _, by omega, by omega, by go_num, rfl, .inr ⟨rfl, by omega, rfl, rfl⟩, hrel2.out⟩
                    case measure => simp [intOf]; omega
              · have p1 : (nn : Int) - 1 ≤ (dn : Int) := by omega
                have p2 : decide ((nn : Int) - 1 ≤ (dn : Int)) = true := decide_eq_true p1
                by_cases ha5 : a = 5
                · subst ha5
                  go_wp2_with (fail)
                  refine (cp _).mono ?_
                  rintro e w4 ⟨rfl, rfl⟩
                  clear cc0 cp
                  go_wp2_with (fail)
                  refine (cS _).mono ?_
                  rintro e w5 ⟨rfl, b5⟩
                  have hB2 := hB.after b5
                  have hT2 := hT.after b5
                  clear hB hT b5
                  go_wp2_with (fail)
                  refine (rs_flusho hB2 d hd3).mono ?_
                  rintro e w' ⟨rfl, rfl⟩
                  go_wp2_with (fail)
                  refine (rs_off hB2).mono ?_
                  rintro e w' ⟨rfl, rfl⟩
                  have hrel2 := Lib.hid (And.intro hB2 (And.intro (hG.mono (Nat.le_succ k)) hT2))
                  clear hB2 hT2 hG hM hVk
                  go_wp2_with (fail)
                  go_roundw
                  case rel => exact ⟨k + 1, dn, S, _, true, _, _, by omega, by omega, by go_num, rfl, .inr ⟨rfl, by omega, rfl, rfl⟩, hrel2.out⟩
                  case measure => simp [intOf]; omega
                · have ha1 : ((a : Int) == 5) = false := by rw [beq_eq_false_iff_ne]; omega
                  clear ha5
                  go_wp2_with (fail)
                  refine (cp _).mono ?_
                  rintro e w4 ⟨rfl, rfl⟩
                  clear cc0 cp
                  go_wp2_with (fail)
                  refine (cS _).mono ?_
                  rintro e w5 ⟨rfl, b5⟩
                  have hB2 := hB.after b5
                  have hT2 := hT.after b5
                  clear hB hT b5
                  go_wp2_with (fail)
                  refine (rs_writeo hB2 d hd3 (a : Int) sq).mono ?_
                  rintro e w' ⟨rfl, rfl⟩
                  go_wp2_with (fail)
                  refine (rs_off hB2).mono ?_
                  rintro e w' ⟨rfl, rfl⟩
                  have hrel2 := Lib.hid (And.intro hB2 (And.intro (hG.mono (Nat.le_succ k)) hT2))
                  clear hB2 hT2 hG hM hVk
                  go_wp2_with (fail)
                  go_roundw
                  case rel => exact ⟨k + 1, dn, S, _, true, _, _, by omega, by omega, by go_num, rfl, .inr ⟨rfl, by omega, rfl, rfl⟩, hrel2.out⟩
                  case measure => simp [intOf]; omega
            · have hcd : ((k : Int) < (ls.length : Int) ∧ ¬ ((k : Int) < 100)) ∨ ¬ ((k : Int) < (ls.length : Int)) := by omega
              clear hIn hlt hR1
              rcases hPh with ⟨rfl, hph, rfl, rfl⟩ | ⟨rfl, hph, rfl, rfl⟩
              · rcases hcd with ⟨kx, k50⟩ | kx
                · skip
                  go_wp2_with (fail)
                  refine (rs_off hB).mono ?_
                  rintro e w' ⟨rfl, rfl⟩
                  have cR := rs_restart hB (.slice none 0 0) [] ⟨.inl ⟨⟨_, _, rfl⟩, rfl⟩, fun x hx => by cases hx⟩ ⟨fun hne => absurd rfl hne, fun x hx => by cases hx⟩ (by simp) (fun i hi z => by obtain ⟨L, V, h1, _, h3⟩ := hG i hi; rw [h1]; have := h3 z; show (V z).length ≤ _; omega)
                  have hC : ∀ i, i < 3 → liveM (fun i => (M i).L) i = crashM (M i) (chs [] i) := fun i hi => by
                    obtain ⟨L, V, h1, _, h3⟩ := hG i hi
                    show Mst.mk false (M i).L noV = crashM (M i) (chs [] i)
                    rw [h1]
                    show Mst.mk false L noV = ⟨false, crash L V [], noV⟩
                    rw [crash_nil]
                  have hL5 : ∀ i, i < 3 → (M i).L.length = 5 := fun i hi => by obtain ⟨L, V, h1, h2, _⟩ := hG i hi; rw [h1]; exact h2
                  clear hG
                  go_wp2_with (fail)
                  refine cR.mono ?_
                  rintro e w3 ⟨rfl, hs3, hB30⟩
                  have hB3 := hB30.congr hC
                  have hT3 := hT.step hs3
                  clear cR hB30 hB hT hs3 hC
                  go_wp2_with (fail)
                  go_loopw [20] (fun t wr => ∃ (j : Nat), j ≤ 3 ∧ t = .int .i64 (j : Int) ∧ RS w1 S wr kk 3 (liveM fun i => (M i).L) false (dn : Int) 0 ∧ TB wr w1.heap.size S x y (armD M)) (fun t _ => 3 - (intOf t).toNat)
                  case atStart => exact ⟨0, by omega, rfl, hB3, hT3⟩
                  case round =>
                    clear hB3 hT3
                    obtain ⟨j, hj, rfl, hB, hT⟩ := hrel
                    by_cases hlt : j < 3
                    · have j1 : (j : Int) < 3 := by omega
                      have hBd := hB.after (Below.refl wr.heap.size wr).drew
                      have hTd := hT.after (Below.refl wr.heap.size wr).drew
                      have cI := rs_image hBd j hlt (L := (M j).L) (V := noV) rfl
                      have hLj := hL5 j hlt
                      obtain ⟨u, cx, ou⟩ := hTd.at1 hlt
                      rw [armD_lo _ hlt] at ou
                      have hxl := hTd.lt.1.2
                      have cI5 : Calls Try.prog 33 #[.pointer (some ⟨kk, 0, none⟩), .int .i64 (j : Int)] wr.drew fun e w' => ∃ z, e = .returned (.slice (some ⟨z, 0, none⟩) 5 5) ∧ Below wr.drew.heap.size wr.drew w' ∧ Own w' wr.drew.heap.size 9 (.slice (some ⟨z, 0, none⟩) 5 5) ((M j).L.map .string) := cI.mono fun e w' ⟨z, h1, h2, h3⟩ => by
                        rw [hLj] at h1 h3
                        exact ⟨z, h1, h2, h3⟩
                      have hK : Hid (∀ V, Below wr.drew.heap.size wr.drew V → V.cell? ⟨x, j, none⟩ = some u) := Lib.hid fun V hb => (hb.cell (p := ⟨x, j, none⟩) hxl).trans cx
                      have hSame : ∀ z V, Below wr.drew.heap.size wr.drew V → Own V wr.drew.heap.size 9 (.slice (some ⟨z, 0, none⟩) 5 5) ((M j).L.map .string) → Calls Try.prog 36 #[.slice (some ⟨z, 0, none⟩) 5 5, u] V (SaysB V true) := fun z V hb ho => by
                        have := same_any _ _ _ _ V ho.reads (ou.reads.below hb) (by omega) (by omega)
                        rw [decide_eq_true rfl] at this
                        exact this
                      have hRel : Hid (∀ V, Below wr.drew.heap.size wr.drew V → RS w1 S V kk 3 (liveM fun i => (M i).L) false (dn : Int) 0 ∧ TB V w1.heap.size S x y (armD M)) := Lib.hid fun V hb => ⟨hBd.after hb, hTd.after hb⟩
                      clear hB hT hBd hTd ou cI hLj hxl
                      go_wp2_with (fail)
                      go_region_held3 (fun V => V.cell? ⟨x, j, none⟩ = some u) (first | exact cx | exact hK.out _ (by assumption)) (first
                        | (go_at_call 33; refine cI5.mono ?_; rintro e w7 ⟨z, rfl, b7, o7⟩; have hs7 := hSame z w7 b7 o7)
                        | (go_at_call 36; refine hs7.mono ?_; rintro e w8 ⟨rfl, b8, hw8⟩; clear hw8; have b9 := below_c b7 b8))
                      all_goals
                        have hrel2 := Lib.hid (hRel.out _ b9)
                        go_wp2_with (fail)
                        go_roundw
                        case rel => exact ⟨j + 1, by omega, by go_num, hrel2.out⟩
                        case measure => simp [intOf]; omega
                    · obtain rfl : j = 3 := by omega
                      have hfin := Lib.hid (hb1H.out.trans (hB.b.mono hb1H.out.size))
                      go_wp2_with (fail)
                      refine (rs_off hB).mono ?_
                      rintro e w' ⟨rfl, rfl⟩
                      go_wp2_with (fail)
                      refine (rs_acts hB).mono ?_
                      rintro e w' ⟨rfl, rfl⟩
                      clear hB hT
                      go_wp2_with (fail)
                      go_ret
                      exact ⟨rfl, hfin.out⟩
                · skip
                  go_wp2_with (fail)
                  refine (rs_off hB).mono ?_
                  rintro e w' ⟨rfl, rfl⟩
                  have cR := rs_restart hB (.slice none 0 0) [] ⟨.inl ⟨⟨_, _, rfl⟩, rfl⟩, fun x hx => by cases hx⟩ ⟨fun hne => absurd rfl hne, fun x hx => by cases hx⟩ (by simp) (fun i hi z => by obtain ⟨L, V, h1, _, h3⟩ := hG i hi; rw [h1]; have := h3 z; show (V z).length ≤ _; omega)
                  have hC : ∀ i, i < 3 → liveM (fun i => (M i).L) i = crashM (M i) (chs [] i) := fun i hi => by
                    obtain ⟨L, V, h1, _, h3⟩ := hG i hi
                    show Mst.mk false (M i).L noV = crashM (M i) (chs [] i)
                    rw [h1]
                    show Mst.mk false L noV = ⟨false, crash L V [], noV⟩
                    rw [crash_nil]
                  have hL5 : ∀ i, i < 3 → (M i).L.length = 5 := fun i hi => by obtain ⟨L, V, h1, h2, _⟩ := hG i hi; rw [h1]; exact h2
                  clear hG
                  go_wp2_with (fail)
                  refine cR.mono ?_
                  rintro e w3 ⟨rfl, hs3, hB30⟩
                  have hB3 := hB30.congr hC
                  have hT3 := hT.step hs3
                  clear cR hB30 hB hT hs3 hC
                  go_wp2_with (fail)
                  go_loopw [20] (fun t wr => ∃ (j : Nat), j ≤ 3 ∧ t = .int .i64 (j : Int) ∧ RS w1 S wr kk 3 (liveM fun i => (M i).L) false (dn : Int) 0 ∧ TB wr w1.heap.size S x y (armD M)) (fun t _ => 3 - (intOf t).toNat)
                  case atStart => exact ⟨0, by omega, rfl, hB3, hT3⟩
                  case round =>
                    clear hB3 hT3
                    obtain ⟨j, hj, rfl, hB, hT⟩ := hrel
                    by_cases hlt : j < 3
                    · have j1 : (j : Int) < 3 := by omega
                      have hBd := hB.after (Below.refl wr.heap.size wr).drew
                      have hTd := hT.after (Below.refl wr.heap.size wr).drew
                      have cI := rs_image hBd j hlt (L := (M j).L) (V := noV) rfl
                      have hLj := hL5 j hlt
                      obtain ⟨u, cx, ou⟩ := hTd.at1 hlt
                      rw [armD_lo _ hlt] at ou
                      have hxl := hTd.lt.1.2
                      have cI5 : Calls Try.prog 33 #[.pointer (some ⟨kk, 0, none⟩), .int .i64 (j : Int)] wr.drew fun e w' => ∃ z, e = .returned (.slice (some ⟨z, 0, none⟩) 5 5) ∧ Below wr.drew.heap.size wr.drew w' ∧ Own w' wr.drew.heap.size 9 (.slice (some ⟨z, 0, none⟩) 5 5) ((M j).L.map .string) := cI.mono fun e w' ⟨z, h1, h2, h3⟩ => by
                        rw [hLj] at h1 h3
                        exact ⟨z, h1, h2, h3⟩
                      have hK : Hid (∀ V, Below wr.drew.heap.size wr.drew V → V.cell? ⟨x, j, none⟩ = some u) := Lib.hid fun V hb => (hb.cell (p := ⟨x, j, none⟩) hxl).trans cx
                      have hSame : ∀ z V, Below wr.drew.heap.size wr.drew V → Own V wr.drew.heap.size 9 (.slice (some ⟨z, 0, none⟩) 5 5) ((M j).L.map .string) → Calls Try.prog 36 #[.slice (some ⟨z, 0, none⟩) 5 5, u] V (SaysB V true) := fun z V hb ho => by
                        have := same_any _ _ _ _ V ho.reads (ou.reads.below hb) (by omega) (by omega)
                        rw [decide_eq_true rfl] at this
                        exact this
                      have hRel : Hid (∀ V, Below wr.drew.heap.size wr.drew V → RS w1 S V kk 3 (liveM fun i => (M i).L) false (dn : Int) 0 ∧ TB V w1.heap.size S x y (armD M)) := Lib.hid fun V hb => ⟨hBd.after hb, hTd.after hb⟩
                      clear hB hT hBd hTd ou cI hLj hxl
                      go_wp2_with (fail)
                      go_region_held3 (fun V => V.cell? ⟨x, j, none⟩ = some u) (first | exact cx | exact hK.out _ (by assumption)) (first
                        | (go_at_call 33; refine cI5.mono ?_; rintro e w7 ⟨z, rfl, b7, o7⟩; have hs7 := hSame z w7 b7 o7)
                        | (go_at_call 36; refine hs7.mono ?_; rintro e w8 ⟨rfl, b8, hw8⟩; clear hw8; have b9 := below_c b7 b8))
                      all_goals
                        have hrel2 := Lib.hid (hRel.out _ b9)
                        go_wp2_with (fail)
                        go_roundw
                        case rel => exact ⟨j + 1, by omega, by go_num, hrel2.out⟩
                        case measure => simp [intOf]; omega
                    · obtain rfl : j = 3 := by omega
                      have hfin := Lib.hid (hb1H.out.trans (hB.b.mono hb1H.out.size))
                      go_wp2_with (fail)
                      refine (rs_off hB).mono ?_
                      rintro e w' ⟨rfl, rfl⟩
                      go_wp2_with (fail)
                      refine (rs_acts hB).mono ?_
                      rintro e w' ⟨rfl, rfl⟩
                      clear hB hT
                      go_wp2_with (fail)
                      go_ret
                      exact ⟨rfl, hfin.out⟩
              · rcases hcd with ⟨kx, k50⟩ | kx
                · skip
                  go_wp2_with (fail)
                  refine (rs_off hB).mono ?_
                  rintro e w' ⟨rfl, rfl⟩
                  have cR := rs_restart hB (.slice none 0 0) [] ⟨.inl ⟨⟨_, _, rfl⟩, rfl⟩, fun x hx => by cases hx⟩ ⟨fun hne => absurd rfl hne, fun x hx => by cases hx⟩ (by simp) (fun i hi z => by obtain ⟨L, V, h1, _, h3⟩ := hG i hi; rw [h1]; have := h3 z; show (V z).length ≤ _; omega)
                  have hC : ∀ i, i < 3 → liveM (fun i => (M i).L) i = crashM (M i) (chs [] i) := fun i hi => by
                    obtain ⟨L, V, h1, _, h3⟩ := hG i hi
                    show Mst.mk false (M i).L noV = crashM (M i) (chs [] i)
                    rw [h1]
                    show Mst.mk false L noV = ⟨false, crash L V [], noV⟩
                    rw [crash_nil]
                  have hL5 : ∀ i, i < 3 → (M i).L.length = 5 := fun i hi => by obtain ⟨L, V, h1, h2, _⟩ := hG i hi; rw [h1]; exact h2
                  clear hG
                  go_wp2_with (fail)
                  refine cR.mono ?_
                  rintro e w3 ⟨rfl, hs3, hB30⟩
                  have hB3 := hB30.congr hC
                  have hT3 := hT.step hs3
                  clear cR hB30 hB hT hs3 hC
                  go_wp2_with (fail)
                  go_loopw [20] (fun t wr => ∃ (j : Nat), j ≤ 3 ∧ t = .int .i64 (j : Int) ∧ RS w1 S wr kk 3 (liveM fun i => (M i).L) false (nn : Int) 0 ∧ TB wr w1.heap.size S x y (armD M)) (fun t _ => 3 - (intOf t).toNat)
                  case atStart => exact ⟨0, by omega, rfl, hB3, hT3⟩
                  case round =>
                    clear hB3 hT3
                    obtain ⟨j, hj, rfl, hB, hT⟩ := hrel
                    by_cases hlt : j < 3
                    · have j1 : (j : Int) < 3 := by omega
                      have hBd := hB.after (Below.refl wr.heap.size wr).drew
                      have hTd := hT.after (Below.refl wr.heap.size wr).drew
                      have cI := rs_image hBd j hlt (L := (M j).L) (V := noV) rfl
                      have hLj := hL5 j hlt
                      obtain ⟨u, cx, ou⟩ := hTd.at1 hlt
                      rw [armD_lo _ hlt] at ou
                      have hxl := hTd.lt.1.2
                      have cI5 : Calls Try.prog 33 #[.pointer (some ⟨kk, 0, none⟩), .int .i64 (j : Int)] wr.drew fun e w' => ∃ z, e = .returned (.slice (some ⟨z, 0, none⟩) 5 5) ∧ Below wr.drew.heap.size wr.drew w' ∧ Own w' wr.drew.heap.size 9 (.slice (some ⟨z, 0, none⟩) 5 5) ((M j).L.map .string) := cI.mono fun e w' ⟨z, h1, h2, h3⟩ => by
                        rw [hLj] at h1 h3
                        exact ⟨z, h1, h2, h3⟩
                      have hK : Hid (∀ V, Below wr.drew.heap.size wr.drew V → V.cell? ⟨x, j, none⟩ = some u) := Lib.hid fun V hb => (hb.cell (p := ⟨x, j, none⟩) hxl).trans cx
                      have hSame : ∀ z V, Below wr.drew.heap.size wr.drew V → Own V wr.drew.heap.size 9 (.slice (some ⟨z, 0, none⟩) 5 5) ((M j).L.map .string) → Calls Try.prog 36 #[.slice (some ⟨z, 0, none⟩) 5 5, u] V (SaysB V true) := fun z V hb ho => by
                        have := same_any _ _ _ _ V ho.reads (ou.reads.below hb) (by omega) (by omega)
                        rw [decide_eq_true rfl] at this
                        exact this
                      have hRel : Hid (∀ V, Below wr.drew.heap.size wr.drew V → RS w1 S V kk 3 (liveM fun i => (M i).L) false (nn : Int) 0 ∧ TB V w1.heap.size S x y (armD M)) := Lib.hid fun V hb => ⟨hBd.after hb, hTd.after hb⟩
                      clear hB hT hBd hTd ou cI hLj hxl
                      go_wp2_with (fail)
                      go_region_held3 (fun V => V.cell? ⟨x, j, none⟩ = some u) (first | exact cx | exact hK.out _ (by assumption)) (first
                        | (go_at_call 33; refine cI5.mono ?_; rintro e w7 ⟨z, rfl, b7, o7⟩; have hs7 := hSame z w7 b7 o7)
                        | (go_at_call 36; refine hs7.mono ?_; rintro e w8 ⟨rfl, b8, hw8⟩; clear hw8; have b9 := below_c b7 b8))
                      all_goals
                        have hrel2 := Lib.hid (hRel.out _ b9)
                        go_wp2_with (fail)
                        go_roundw
                        case rel => exact ⟨j + 1, by omega, by go_num, hrel2.out⟩
                        case measure => simp [intOf]; omega
                    · obtain rfl : j = 3 := by omega
                      have hfin := Lib.hid (hb1H.out.trans (hB.b.mono hb1H.out.size))
                      go_wp2_with (fail)
                      refine (rs_off hB).mono ?_
                      rintro e w' ⟨rfl, rfl⟩
                      go_wp2_with (fail)
                      refine (rs_acts hB).mono ?_
                      rintro e w' ⟨rfl, rfl⟩
                      clear hB hT
                      go_wp2_with (fail)
                      go_ret
                      exact ⟨rfl, hfin.out⟩
                · skip
                  go_wp2_with (fail)
                  refine (rs_off hB).mono ?_
                  rintro e w' ⟨rfl, rfl⟩
                  have cR := rs_restart hB (.slice none 0 0) [] ⟨.inl ⟨⟨_, _, rfl⟩, rfl⟩, fun x hx => by cases hx⟩ ⟨fun hne => absurd rfl hne, fun x hx => by cases hx⟩ (by simp) (fun i hi z => by obtain ⟨L, V, h1, _, h3⟩ := hG i hi; rw [h1]; have := h3 z; show (V z).length ≤ _; omega)
                  have hC : ∀ i, i < 3 → liveM (fun i => (M i).L) i = crashM (M i) (chs [] i) := fun i hi => by
                    obtain ⟨L, V, h1, _, h3⟩ := hG i hi
                    show Mst.mk false (M i).L noV = crashM (M i) (chs [] i)
                    rw [h1]
                    show Mst.mk false L noV = ⟨false, crash L V [], noV⟩
                    rw [crash_nil]
                  have hL5 : ∀ i, i < 3 → (M i).L.length = 5 := fun i hi => by obtain ⟨L, V, h1, h2, _⟩ := hG i hi; rw [h1]; exact h2
                  clear hG
                  go_wp2_with (fail)
                  refine cR.mono ?_
                  rintro e w3 ⟨rfl, hs3, hB30⟩
                  have hB3 := hB30.congr hC
                  have hT3 := hT.step hs3
                  clear cR hB30 hB hT hs3 hC
                  go_wp2_with (fail)
                  go_loopw [20] (fun t wr => ∃ (j : Nat), j ≤ 3 ∧ t = .int .i64 (j : Int) ∧ RS w1 S wr kk 3 (liveM fun i => (M i).L) false (nn : Int) 0 ∧ TB wr w1.heap.size S x y (armD M)) (fun t _ => 3 - (intOf t).toNat)
                  case atStart => exact ⟨0, by omega, rfl, hB3, hT3⟩
                  case round =>
                    clear hB3 hT3
                    obtain ⟨j, hj, rfl, hB, hT⟩ := hrel
                    by_cases hlt : j < 3
                    · have j1 : (j : Int) < 3 := by omega
                      have hBd := hB.after (Below.refl wr.heap.size wr).drew
                      have hTd := hT.after (Below.refl wr.heap.size wr).drew
                      have cI := rs_image hBd j hlt (L := (M j).L) (V := noV) rfl
                      have hLj := hL5 j hlt
                      obtain ⟨u, cx, ou⟩ := hTd.at1 hlt
                      rw [armD_lo _ hlt] at ou
                      have hxl := hTd.lt.1.2
                      have cI5 : Calls Try.prog 33 #[.pointer (some ⟨kk, 0, none⟩), .int .i64 (j : Int)] wr.drew fun e w' => ∃ z, e = .returned (.slice (some ⟨z, 0, none⟩) 5 5) ∧ Below wr.drew.heap.size wr.drew w' ∧ Own w' wr.drew.heap.size 9 (.slice (some ⟨z, 0, none⟩) 5 5) ((M j).L.map .string) := cI.mono fun e w' ⟨z, h1, h2, h3⟩ => by
                        rw [hLj] at h1 h3
                        exact ⟨z, h1, h2, h3⟩
                      have hK : Hid (∀ V, Below wr.drew.heap.size wr.drew V → V.cell? ⟨x, j, none⟩ = some u) := Lib.hid fun V hb => (hb.cell (p := ⟨x, j, none⟩) hxl).trans cx
                      have hSame : ∀ z V, Below wr.drew.heap.size wr.drew V → Own V wr.drew.heap.size 9 (.slice (some ⟨z, 0, none⟩) 5 5) ((M j).L.map .string) → Calls Try.prog 36 #[.slice (some ⟨z, 0, none⟩) 5 5, u] V (SaysB V true) := fun z V hb ho => by
                        have := same_any _ _ _ _ V ho.reads (ou.reads.below hb) (by omega) (by omega)
                        rw [decide_eq_true rfl] at this
                        exact this
                      have hRel : Hid (∀ V, Below wr.drew.heap.size wr.drew V → RS w1 S V kk 3 (liveM fun i => (M i).L) false (nn : Int) 0 ∧ TB V w1.heap.size S x y (armD M)) := Lib.hid fun V hb => ⟨hBd.after hb, hTd.after hb⟩
                      clear hB hT hBd hTd ou cI hLj hxl
                      go_wp2_with (fail)
                      go_region_held3 (fun V => V.cell? ⟨x, j, none⟩ = some u) (first | exact cx | exact hK.out _ (by assumption)) (first
                        | (go_at_call 33; refine cI5.mono ?_; rintro e w7 ⟨z, rfl, b7, o7⟩; have hs7 := hSame z w7 b7 o7)
                        | (go_at_call 36; refine hs7.mono ?_; rintro e w8 ⟨rfl, b8, hw8⟩; clear hw8; have b9 := below_c b7 b8))
                      all_goals
                        have hrel2 := Lib.hid (hRel.out _ b9)
                        go_wp2_with (fail)
                        go_roundw
                        case rel => exact ⟨j + 1, by omega, by go_num, hrel2.out⟩
                        case measure => simp [intOf]; omega
                    · obtain rfl : j = 3 := by omega
                      have hfin := Lib.hid (hb1H.out.trans (hB.b.mono hb1H.out.size))
                      go_wp2_with (fail)
                      refine (rs_off hB).mono ?_
                      rintro e w' ⟨rfl, rfl⟩
                      go_wp2_with (fail)
                      refine (rs_acts hB).mono ?_
                      rintro e w' ⟨rfl, rfl⟩
                      clear hB hT
                      go_wp2_with (fail)
                      go_ret
                      exact ⟨rfl, hfin.out⟩
end Go.Proofs.Ytomgbnbkfkjifaa

