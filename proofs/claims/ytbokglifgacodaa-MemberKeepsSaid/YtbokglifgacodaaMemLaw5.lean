/- member: MemberLatest. -/
import Derived.Test.YtbokglifgacodaaMemSame
import Derived.Test.YtbokglifgacodaaMemLaw3
namespace Go.Proofs.Ytbokglifgacodaa
open Go.RowKit
set_option linter.unusedVariables false
set_option linter.unusedSimpArgs false

theorem pend_get (n : Nat) (V : Int → List ByteArray) (k : Nat) (h : k < (pend n V).length) : ∃ i : Nat, i < n ∧ (pend n V).getD k 0 = (i : Int) ∧ V (i : Int) ≠ [] := by
  obtain ⟨i, h1, h2, h3⟩ := mem_pend.1 (show (pend n V).getD k 0 ∈ pend n V by rw [List.getD_eq_getElem?_getD, List.getElem?_eq_getElem h]; exact List.getElem_mem h)
  exact ⟨i, h1, h3, fun e => by unfold zOf at h2; rw [e] at h2; simp at h2⟩
/-- A crash that keeps of each the last is as a flush. -/
theorem crash_last (L : List ByteArray) (V : Int → List ByteArray) : crash L V ((pend L.length V).map fun p => ((V p).length : Int)) = flush L V := by
  obtain ⟨P, hP⟩ : ∃ P, P = pend L.length V := ⟨_, rfl⟩
  have key : ∀ k, k ≤ P.length → crL L V (P.map fun p => ((V p).length : Int)) P k = flL L V (fun z => decide (z ∈ P.take k)) := by
    intro k
    induction k with
    | zero => intro _; rw [flL_none L V _ (fun i _ => by simp)]; rfl
    | succ k ih =>
      intro hk
      obtain ⟨i, hi, hpi, hV⟩ := pend_get L.length V k (by rw [← hP]; omega)
      rw [← hP] at hpi
      have hlen : 0 < (V (i : Int)).length := List.length_pos_iff.2 hV
      have hj : chJ V (P.map fun p => ((V p).length : Int)) P k = (V (i : Int)).length := by
        unfold chJ chAt
        rw [hpi]
        have e : (P.map fun p => ((V p).length : Int)).getD k 0 = ((V (i : Int)).length : Int) := by
          rw [List.getD_eq_getElem?_getD, List.getElem?_map, List.getElem?_eq_getElem (show k < P.length by omega)]
          have : P[k] = (i : Int) := by rw [← hpi, List.getD_eq_getElem?_getD, List.getElem?_eq_getElem (show k < P.length by omega)]; rfl
          simp [this]
        rw [e]
        unfold pickC
        rw [if_neg (by omega), Int.toNat_natCast]
        exact Nat.mod_eq_of_lt (by omega)
      show (if chJ V _ P k = 0 then _ else _) = _
      rw [hj, if_neg (by omega), ih (by omega), hpi, Int.toNat_natCast]
      refine flL_set L V _ _ i hi _ ?_ ?_ ?_
      · rw [lastOf_get _ _ hV (by omega), List.getD_eq_getElem?_getD, List.getElem?_eq_getElem (by omega)]; rfl
      · refine decide_eq_true ?_
        rw [List.take_add_one, List.mem_append]
        right
        rw [List.getElem?_eq_getElem (show k < P.length by omega)]
        have : P[k] = (i : Int) := by rw [← hpi, List.getD_eq_getElem?_getD, List.getElem?_eq_getElem (show k < P.length by omega)]; rfl
        simp [this]
      · intro j hj hjl
        have : P[k] = (i : Int) := by rw [← hpi, List.getD_eq_getElem?_getD, List.getElem?_eq_getElem (show k < P.length by omega)]; rfl
        rw [List.take_add_one, List.getElem?_eq_getElem (show k < P.length by omega)]
        congr 1
        simp only [List.mem_append, Option.toList_some, List.mem_singleton, this, eq_iff_iff]
        exact ⟨fun h => h.resolve_right (by omega), Or.inl⟩
  unfold crash
  rw [← hP, key _ (Nat.le_refl _), List.take_length]
  refine flL_same L V _ (fun i hi hv => decide_eq_true ?_)
  rw [hP]
  refine mem_pend.2 ⟨i, hi, ?_, rfl⟩
  unfold zOf
  cases h : V (i : Int) with
  | nil => exact absurd h hv
  | cons a b => rfl
theorem crash_noV (L : List ByteArray) (ch : List Int) : crash L noV ch = L := by
  unfold crash
  rw [pend_noV]; rfl
theorem flush_noV (L : List ByteArray) : flush L noV = L := by
  have := flL_same L noV (fun _ => false) (fun i _ h => absurd rfl h)
  rw [← this]
  exact flL_none L noV _ (fun _ _ => rfl)
theorem int_isI : ∃ i, Try.prog.info? 3 = some i ∧ i.zero = some (.int .i64 0) ∧ i.size = 1 ∧ i.bytes = 8 := (cont_gen (P := Try.prog) (t := 3) (c := .int .i64 0) (n := 1) (k := 8) (by kernel_rfl)).2
set_option maxRecDepth 100000 in
set_option maxHeartbeats 4000000 in
theorem latest_walk (v : Value) (ls : List Int) (vc : Value) (ch : List Int) (w : World) (hR : Reads w v (ls.map (.int .i64))) (hF : ∀ n ∈ ls, (Lit.int .i64 n).wf = true)
    (hC : Reads w vc (ch.map (.int .i64))) (hCF : ∀ n ∈ ch, (Lit.int .i64 n).wf = true) (hCn : ch.length ≤ 140737488355328) :
    Calls Try.prog 8 #[v, vc] w (Ends w true) := by
  have cN : ∀ W, Calls Try.prog 11 #[.int .i64 8] W fun e w' => ∃ S m g bp cap, e = .returned (.tuple #[.pointer (some ⟨m, 0, none⟩), .int .i64 0]) ∧ MS W S w' m g bp cap false (List.replicate 8 zero128) noV := fun W => ms_new 8 W (by omega) (by omega)
  have hIn : ∀ k, k < ls.length → In64 (ls.getD k 0) := fun k hk => by
    rw [List.getD_eq_getElem?_getD, List.getElem?_eq_getElem hk]; exact hF _ (List.getElem_mem hk)
  have hlenv := fun W => hR.len_run (P := Try.prog) Try.underlying31 3 W
  rw [List.length_map] at hlenv
  have hRep : (List.replicate 8 zero128).length = 8 := by simp
  clear hF
  go_enter Try.func8, Try.ntmps8
  go_wp2_with (fail)
  refine (awake_any _).mono ?_
  rintro e w1 ⟨rfl, b1⟩
  have hR1 := hR.below b1
  have hC1 := hC.below b1
  go_wp2_with (fail)
  refine (cN _).mono ?_
  rintro e w2 ⟨S1, m, g, bp, cap, rfl, h1⟩
  go_wp2_with (fail)
  refine (cN _).mono ?_
  rintro e w3 ⟨S2, mb, gb, bpb, capb, rfl, h2⟩
  have hA0 := h1.after h2.b
  have hB0 : MS w1 S2 w3 mb gb bpb capb false (List.replicate 8 zero128) noV := by
    obtain ⟨F, x1, x2⟩ := h2.h
    exact ⟨h1.b.trans (h2.b.mono h1.b.size), F, fun k hk => Nat.le_trans h1.b.size (x1 k hk), x2⟩
  have hD0 : ∀ k, S2 k → ¬ S1 k := fun k h3 h4 => by have := h2.from k h3; have := h1.lt k h4; omega
  have hb1H := Lib.hid b1
  clear b1 cN hR hC h1 h2
  go_wp2_with (fail)
  go_loopw [10, 11] (fun t _ wr => ∃ (k : Nat) (S T : Nat → Prop) (V : Int → List ByteArray), k ≤ 60 ∧ k ≤ ls.length ∧ t = .int .i64 (k : Int) ∧ MS w1 S wr m g bp cap false (List.replicate 8 zero128) V ∧ MS w1 T wr mb gb bpb capb false (List.replicate 8 zero128) V ∧ (∀ k, T k → ¬ S k) ∧ ∀ z, (V z).length ≤ k) (fun t _ _ => 60 - (intOf t).toNat)
  case atStart => exact ⟨0, S1, S2, _, by omega, by omega, rfl, hA0, hB0, hD0, fun z => by simp [noV]⟩
  case round =>
    clear hA0 hB0 hD0
    obtain ⟨k, S, T, V, hk50, hkl, rfl, hA, hB, hST, hVk⟩ := hrel
    by_cases hlt : k < ls.length ∧ k < 60
    · obtain ⟨hl1, hl2⟩ := hlt
      obtain ⟨va, vcap, rfl, vcell⟩ := hR1.nums
      obtain ⟨cb, co, rfl, clt1, cc1⟩ := vcell k hl1
      have hcI := hIn k hl1
      obtain ⟨c, hc⟩ : ∃ c, ls.getD k 0 = c := ⟨_, rfl⟩
      rw [hc] at hcI cc1
      have cc0 := (hB.b.cell (p := ⟨cb, co + k, none⟩) clt1).trans cc1
      obtain ⟨cc, hcc⟩ : ∃ r, pickC c % 1048576 = r := ⟨_, rfl⟩
      have hccb : cc < 1048576 := by rw [← hcc]; exact Nat.mod_lt _ (by omega)
      have cp : ∀ W, Calls Try.prog 13 #[.int .i64 c, .int .i64 1048576] W fun e w' => e = .returned (.int .i64 (cc : Int)) ∧ W = w' := fun W => by
        have := pick_any c 1048576 hcI (by omega) (by omega) W
        rw [hcc] at this; exact this
      obtain ⟨d, hd⟩ : ∃ d, cc % 8 = d := ⟨_, rfl⟩
      obtain ⟨q, hq⟩ : ∃ q, cc / 8 = q := ⟨_, rfl⟩
      have m1 : (cc : Int) % 8 = (d : Int) := by omega
      have m2 : ((cc : Int)).tmod 8 = (d : Int) := by rw [Int.tmod_eq_emod_of_nonneg (by omega)]; exact m1
      have m3 : (cc : Int) / 8 = (q : Int) := by omega
      have m4 : ((cc : Int)).tdiv 8 = (q : Int) := by rw [Int.tdiv_eq_ediv_of_nonneg (by omega)]; exact m3
      have m5 : IntKind.i64.wrap (q : Int) = (q : Int) := wrap_in (by omega) (by omega)
      have hd8 : d < 8 := by omega
      have cS : ∀ W, Calls Try.prog 15 #[.int .i64 (q : Int)] W (GivesS W (sec q)) := fun W => sector_any q (in64_iff.2 (by omega)) W
      have hs8 := sec_size q
      have k1 : (k : Int) < (ls.length : Int) := by omega
      have k2 : (k : Int) < 60 := by omega
      clear hcc hccb hd hq hcI hIn vcell
      generalize sec q = sq at *
      go_wp2_with (fail)
      refine (cp _).mono ?_
      rintro e w4 ⟨rfl, rfl⟩
      clear cc0
      go_wp2_with (fail)
      refine (cS _).mono ?_
      rintro e w5 ⟨rfl, b5⟩
      have hA2 := hA.after b5
      have hB2 := hB.after b5
      clear hA hB b5
      go_wp2_with (fail)
      refine (ms_write hA2 d (by omega) sq hs8 (by have := hVk d; omega)).mono ?_
      rintro e w6 ⟨S6, rfl, hs6, hA3⟩
      obtain ⟨hB3, hST3⟩ := hB2.step hs6 hA2.from hST
      clear hA2 hB2 hs6
      go_wp2_with (fail)
      refine (cS _).mono ?_
      rintro e w7 ⟨rfl, b7⟩
      have hA4 := hA3.after b7
      have hB4 := hB3.after b7
      clear hA3 hB3 b7
      go_wp2_with (fail)
      refine (ms_write hB4 d (by omega) sq hs8 (by have := hVk d; omega)).mono ?_
      rintro e w8 ⟨T8, rfl, hs8', hB5⟩
      obtain ⟨hA5, hST5⟩ := hA4.step hs8' hB4.from (fun k h1 h2 => hST3 k h2 h1)
      clear hA4 hB4 hs8'
      have hV4 := updV_le hVk d sq
      generalize updZ V (d : Int) (V (d : Int) ++ [sq]) = V4 at *
      go_wp2_with (fail)
      go_roundw
      case rel => exact ⟨k + 1, S6, T8, V4, by omega, by omega, by go_num, hA5, hB5, fun k h1 h2 => hST5 k h2 h1, hV4⟩
      case measure => simp [intOf]; omega
    · have hcd : ((k : Int) < (ls.length : Int) ∧ ¬ ((k : Int) < 60)) ∨ ¬ ((k : Int) < (ls.length : Int)) := by omega
      clear hIn hlt hR1
      rcases hcd with ⟨kx, k50⟩ | kx
      · skip
        go_wp2_with (fail)
        refine (ms_pend hB).mono ?_
        rintro e w2 ⟨vp, rfl, b2, op⟩
        have hA1 := hA.after b2
        have hB1 := hB.after b2
        rw [hRep] at op
        obtain ⟨P, hP⟩ : ∃ P, pend 8 V = P := ⟨_, rfl⟩
        have hPn : P.length ≤ 8 := by rw [← hP]; exact pend_le _ _
        have hcl := crash_last (List.replicate 8 zero128) V
        rw [hRep, hP] at hcl
        rw [hP] at op
        have hPI : ∀ i, i < P.length → In64 (P.getD i 0) := fun i hi => by
          obtain ⟨j, h1, h2, _⟩ := pend_get 8 V i (by rw [hP]; exact hi)
          rw [hP] at h2
          rw [h2]; exact in64_nat j (by omega)
        have hlp := fun W => op.reads.len_run (P := Try.prog) Try.underlying31 3 W
        rw [List.length_map] at hlp
        obtain ⟨pa, pcap, rfl, pcell⟩ := op.reads.nums
        clear hA hB b2 hP op
        go_wp2_with (fail)
        go_loopw [14, 13] (fun t vx wq => ∃ (i : Nat) (va : Value), va = vx ∧ i ≤ P.length ∧ t = .int .i64 (i : Int) ∧ Below w2.heap.size w2 wq ∧ Own wq w2.heap.size 3 va (((P.take i).map fun p => ((V p).length : Int)).map (.int .i64))) (fun t _ _ => P.length - (intOf t).toNat)
        case atStart => exact ⟨0, _, rfl, by omega, rfl, Below.refl _ _, Own.nil _ _ _⟩
        case round =>
          obtain ⟨i, va, rfl, hi, rfl, hbq, ho⟩ := hrel
          by_cases hip : i < P.length
          · have i1 : (i : Int) < (P.length : Int) := by omega
            obtain ⟨xb, xo, rfl, xlt, xc⟩ := pcell i hip
            have xc0 := (hbq.cell (p := ⟨xb, xo + i, none⟩) xlt).trans xc
            have hI := hPI i hip
            have hn1 : (P.take (i + 1)).map (fun p => ((V p).length : Int)) = (P.take i).map (fun p => ((V p).length : Int)) ++ [((V (P.getD i 0)).length : Int)] := by
              rw [List.take_add_one, List.getElem?_eq_getElem hip, List.map_append, List.getD_eq_getElem?_getD, List.getElem?_eq_getElem hip]; rfl
            generalize P.getD i 0 = p at *
            have cV := ms_vers (hB1.after hbq) p hI
            obtain ⟨si, s1, s2, s3, s4⟩ := int_isI
            have hVp := hVk p
            obtain ⟨v', w', hap, ho2, hb2⟩ := Own.push (P := Try.prog) (T := 31) Try.underlying31 s1 s2 s3 s4 rfl ho (.int .i64 ((V p).length : Int)) rfl hbq.size (by rw [List.length_map, List.length_map, List.length_take]; omega) (by rw [List.length_map, List.length_map, List.length_take]; omega)
            have ho3 : Own w' w2.heap.size 3 v' (((P.take (i + 1)).map fun p => ((V p).length : Int)).map (.int .i64)) := by rw [hn1, List.map_append]; exact ho2
            have hrel2 := Lib.hid (And.intro (hbq.trans hb2) ho3)
            clear s1 s2 s3 s4 ho ho2 ho3 hb2 hbq hn1 hI hip
            go_wp2_with (fail)
            refine cV.mono ?_
            rintro e w' ⟨rfl, rfl⟩
            clear cV
            go_wp2_with (at_builtin; refine wpList_append_run hap _ _ rfl rfl rfl rfl rfl ?_)
            go_roundw
            case rel => exact ⟨i + 1, v', rfl, by omega, by go_num, hrel2.out⟩
            case measure => simp [intOf]; omega
          · obtain rfl : i = P.length := by omega
            have hA2 := hA1.after hbq
            have hB2 := hB1.after hbq
            rw [List.take_length] at ho
            have hvaS : ∀ b, va.ownBlock = some b → ¬ T b := fun b hb ht => by have := (ho.o.lt b hb).1; have := hB1.lt b ht; omega
            have hvA : ∀ b, va.ownBlock = some b → ¬ S b := fun b hb ht => by have := (ho.o.lt b hb).1; have := hA1.lt b ht; omega
            have hvlt : ∀ b, va.ownBlock = some b → b < wr.heap.size := fun b hb => (ho.o.lt b hb).2
            have hreads := ho.reads
            clear ho hbq hA1 hB1 hlp pcell hi hip hPI
            go_wp2_with (fail)
            refine (ms_flush hA2 (fun z => by have := hVk z; omega)).mono ?_
            rintro e w5 ⟨rfl, hs5, hA3⟩
            obtain ⟨hB3, _⟩ := hB2.step hs5 hA2.from hST
            have hs5' := Lib.hid hs5
            clear hs5 hA2 hB2
            go_wp2_with (fail)
            refine (ms_crash hB3 va (P.map fun p => ((V p).length : Int)) (hreads.at (fun b hb => hs5'.out.oth b (hvlt b hb) (hvA b hb)) hs5'.out.b0.size) (fun _ => hvaS) (fun c hc => by obtain ⟨p, _, rfl⟩ := List.mem_map.1 hc; have := hVk p; exact in64_iff.2 (by omega)) (by rw [List.length_map]; omega) (fun z => by have := hVk z; omega)).mono ?_
            rintro e w6 ⟨rfl, hs6, hB4⟩
            rw [hcl] at hB4
            obtain ⟨hA4, hST4⟩ := hA3.step hs6 hB3.from (fun k h1 h2 => hST k h2 h1)
            obtain ⟨L, hL⟩ : ∃ L, flush (List.replicate 8 zero128) V = L := ⟨_, rfl⟩
            have hL8 : L.length = 8 := by rw [← hL, flush_len]; exact hRep
            rw [hL] at hA4 hB4
            clear hs6 hA3 hB3 hs5' hvaS hvA hvlt hreads hcl hL hVk hlenv hPn
            go_wp2_with (fail)
            refine (ms_image hA4).mono ?_
            rintro e w7 ⟨x, rfl, b7, o7⟩
            have hxS : ¬ S x := fun hs => by have := o7.lt.1; have := hA4.lt x hs; omega
            rw [hL8] at o7 ⊢
            have hA5 := hA4.after b7
            have hB5 := hB4.after b7
            clear hA4 hB4 b7
            go_wp2_with (fail)
            refine (ms_image hB5).mono ?_
            rintro e w8 ⟨y, rfl, b8, o8⟩
            rw [hL8] at o8 ⊢
            have hA6 := hA5.after b8
            have o7' := o7.after b8
            have hs1 := same_any _ _ L L w8 o7'.reads o8.reads (by omega) (by omega)
            rw [decide_eq_true rfl] at hs1
            clear hA5 hB5 b8 o7 o8
            go_wp2_with (fail)
            refine hs1.mono ?_
            rintro e w9 ⟨rfl, b9, _⟩
            have hA7 := hA6.after b9
            have o9 := o7'.after b9
            clear hA6 b9 o7' hs1
            have cF := ms_flush hA7 (fun z => by simp [noV])
            rw [flush_noV] at cF
            go_wp2_with (fail)
            refine cF.mono ?_
            rintro e w10 ⟨rfl, hs10, hA8⟩
            have o10 := o9.step hs10 hxS
            clear hA7 hs10 o9 cF
            go_wp2_with (fail)
            refine (ms_image hA8).mono ?_
            rintro e w11 ⟨z, rfl, b11, o11⟩
            rw [hL8] at o11 ⊢
            have hA9 := hA8.after b11
            have o12 := o10.after b11
            have hs2 := same_any _ _ L L w11 o11.reads o12.reads (by omega) (by omega)
            rw [decide_eq_true rfl] at hs2
            clear hA8 b11 o11 o10
            go_wp2_with (fail)
            refine hs2.mono ?_
            rintro e w13 ⟨rfl, b13, _⟩
            have hA10 := hA9.after b13
            have o13 := o12.after b13
            clear hA9 b13 o12 hs2
            have cC := ms_crash hA10 vc ch (hC1.below hA10.b) (fun hne b hb hs => by have := hC1.blk (by simpa using hne) b hb; have := hA10.from b hs; omega) (fun c hc => hCF c hc) hCn (fun z => by simp [noV])
            rw [crash_noV] at cC
            go_wp2_with (fail)
            refine cC.mono ?_
            rintro e w14 ⟨rfl, hs14, hA11⟩
            have o14 := o13.step hs14 hxS
            clear hA10 hs14 o13 cC
            go_wp2_with (fail)
            refine (ms_image hA11).mono ?_
            rintro e w15 ⟨z2, rfl, b15, o15⟩
            rw [hL8] at o15 ⊢
            have hA12 := hA11.after b15
            have o16 := o14.after b15
            have hs3 := same_any _ _ L L w15 o15.reads o16.reads (by omega) (by omega)
            rw [decide_eq_true rfl] at hs3
            have hfin := Lib.hid (hb1H.out.trans (hA12.b.mono hb1H.out.size))
            clear hA11 b15 o15 o14 o16 hA12
            go_wp2_with (fail)
            refine hs3.mono ?_
            rintro e w16 ⟨rfl, b16, _⟩
            go_wp2_with (fail)
            go_ret
            exact ⟨rfl, hfin.out.trans (b16.mono hfin.out.size)⟩
      · skip
        go_wp2_with (fail)
        refine (ms_pend hB).mono ?_
        rintro e w2 ⟨vp, rfl, b2, op⟩
        have hA1 := hA.after b2
        have hB1 := hB.after b2
        rw [hRep] at op
        obtain ⟨P, hP⟩ : ∃ P, pend 8 V = P := ⟨_, rfl⟩
        have hPn : P.length ≤ 8 := by rw [← hP]; exact pend_le _ _
        have hcl := crash_last (List.replicate 8 zero128) V
        rw [hRep, hP] at hcl
        rw [hP] at op
        have hPI : ∀ i, i < P.length → In64 (P.getD i 0) := fun i hi => by
          obtain ⟨j, h1, h2, _⟩ := pend_get 8 V i (by rw [hP]; exact hi)
          rw [hP] at h2
          rw [h2]; exact in64_nat j (by omega)
        have hlp := fun W => op.reads.len_run (P := Try.prog) Try.underlying31 3 W
        rw [List.length_map] at hlp
        obtain ⟨pa, pcap, rfl, pcell⟩ := op.reads.nums
        clear hA hB b2 hP op
        go_wp2_with (fail)
        go_loopw [14, 13] (fun t vx wq => ∃ (i : Nat) (va : Value), va = vx ∧ i ≤ P.length ∧ t = .int .i64 (i : Int) ∧ Below w2.heap.size w2 wq ∧ Own wq w2.heap.size 3 va (((P.take i).map fun p => ((V p).length : Int)).map (.int .i64))) (fun t _ _ => P.length - (intOf t).toNat)
        case atStart => exact ⟨0, _, rfl, by omega, rfl, Below.refl _ _, Own.nil _ _ _⟩
        case round =>
          obtain ⟨i, va, rfl, hi, rfl, hbq, ho⟩ := hrel
          by_cases hip : i < P.length
          · have i1 : (i : Int) < (P.length : Int) := by omega
            obtain ⟨xb, xo, rfl, xlt, xc⟩ := pcell i hip
            have xc0 := (hbq.cell (p := ⟨xb, xo + i, none⟩) xlt).trans xc
            have hI := hPI i hip
            have hn1 : (P.take (i + 1)).map (fun p => ((V p).length : Int)) = (P.take i).map (fun p => ((V p).length : Int)) ++ [((V (P.getD i 0)).length : Int)] := by
              rw [List.take_add_one, List.getElem?_eq_getElem hip, List.map_append, List.getD_eq_getElem?_getD, List.getElem?_eq_getElem hip]; rfl
            generalize P.getD i 0 = p at *
            have cV := ms_vers (hB1.after hbq) p hI
            obtain ⟨si, s1, s2, s3, s4⟩ := int_isI
            have hVp := hVk p
            obtain ⟨v', w', hap, ho2, hb2⟩ := Own.push (P := Try.prog) (T := 31) Try.underlying31 s1 s2 s3 s4 rfl ho (.int .i64 ((V p).length : Int)) rfl hbq.size (by rw [List.length_map, List.length_map, List.length_take]; omega) (by rw [List.length_map, List.length_map, List.length_take]; omega)
            have ho3 : Own w' w2.heap.size 3 v' (((P.take (i + 1)).map fun p => ((V p).length : Int)).map (.int .i64)) := by rw [hn1, List.map_append]; exact ho2
            have hrel2 := Lib.hid (And.intro (hbq.trans hb2) ho3)
            clear s1 s2 s3 s4 ho ho2 ho3 hb2 hbq hn1 hI hip
            go_wp2_with (fail)
            refine cV.mono ?_
            rintro e w' ⟨rfl, rfl⟩
            clear cV
            go_wp2_with (at_builtin; refine wpList_append_run hap _ _ rfl rfl rfl rfl rfl ?_)
            go_roundw
            case rel => exact ⟨i + 1, v', rfl, by omega, by go_num, hrel2.out⟩
            case measure => simp [intOf]; omega
          · obtain rfl : i = P.length := by omega
            have hA2 := hA1.after hbq
            have hB2 := hB1.after hbq
            rw [List.take_length] at ho
            have hvaS : ∀ b, va.ownBlock = some b → ¬ T b := fun b hb ht => by have := (ho.o.lt b hb).1; have := hB1.lt b ht; omega
            have hvA : ∀ b, va.ownBlock = some b → ¬ S b := fun b hb ht => by have := (ho.o.lt b hb).1; have := hA1.lt b ht; omega
            have hvlt : ∀ b, va.ownBlock = some b → b < wr.heap.size := fun b hb => (ho.o.lt b hb).2
            have hreads := ho.reads
            clear ho hbq hA1 hB1 hlp pcell hi hip hPI
            go_wp2_with (fail)
            refine (ms_flush hA2 (fun z => by have := hVk z; omega)).mono ?_
            rintro e w5 ⟨rfl, hs5, hA3⟩
            obtain ⟨hB3, _⟩ := hB2.step hs5 hA2.from hST
            have hs5' := Lib.hid hs5
            clear hs5 hA2 hB2
            go_wp2_with (fail)
            refine (ms_crash hB3 va (P.map fun p => ((V p).length : Int)) (hreads.at (fun b hb => hs5'.out.oth b (hvlt b hb) (hvA b hb)) hs5'.out.b0.size) (fun _ => hvaS) (fun c hc => by obtain ⟨p, _, rfl⟩ := List.mem_map.1 hc; have := hVk p; exact in64_iff.2 (by omega)) (by rw [List.length_map]; omega) (fun z => by have := hVk z; omega)).mono ?_
            rintro e w6 ⟨rfl, hs6, hB4⟩
            rw [hcl] at hB4
            obtain ⟨hA4, hST4⟩ := hA3.step hs6 hB3.from (fun k h1 h2 => hST k h2 h1)
            obtain ⟨L, hL⟩ : ∃ L, flush (List.replicate 8 zero128) V = L := ⟨_, rfl⟩
            have hL8 : L.length = 8 := by rw [← hL, flush_len]; exact hRep
            rw [hL] at hA4 hB4
            clear hs6 hA3 hB3 hs5' hvaS hvA hvlt hreads hcl hL hVk hlenv hPn
            go_wp2_with (fail)
            refine (ms_image hA4).mono ?_
            rintro e w7 ⟨x, rfl, b7, o7⟩
            have hxS : ¬ S x := fun hs => by have := o7.lt.1; have := hA4.lt x hs; omega
            rw [hL8] at o7 ⊢
            have hA5 := hA4.after b7
            have hB5 := hB4.after b7
            clear hA4 hB4 b7
            go_wp2_with (fail)
            refine (ms_image hB5).mono ?_
            rintro e w8 ⟨y, rfl, b8, o8⟩
            rw [hL8] at o8 ⊢
            have hA6 := hA5.after b8
            have o7' := o7.after b8
            have hs1 := same_any _ _ L L w8 o7'.reads o8.reads (by omega) (by omega)
            rw [decide_eq_true rfl] at hs1
            clear hA5 hB5 b8 o7 o8
            go_wp2_with (fail)
            refine hs1.mono ?_
            rintro e w9 ⟨rfl, b9, _⟩
            have hA7 := hA6.after b9
            have o9 := o7'.after b9
            clear hA6 b9 o7' hs1
            have cF := ms_flush hA7 (fun z => by simp [noV])
            rw [flush_noV] at cF
            go_wp2_with (fail)
            refine cF.mono ?_
            rintro e w10 ⟨rfl, hs10, hA8⟩
            have o10 := o9.step hs10 hxS
            clear hA7 hs10 o9 cF
            go_wp2_with (fail)
            refine (ms_image hA8).mono ?_
            rintro e w11 ⟨z, rfl, b11, o11⟩
            rw [hL8] at o11 ⊢
            have hA9 := hA8.after b11
            have o12 := o10.after b11
            have hs2 := same_any _ _ L L w11 o11.reads o12.reads (by omega) (by omega)
            rw [decide_eq_true rfl] at hs2
            clear hA8 b11 o11 o10
            go_wp2_with (fail)
            refine hs2.mono ?_
            rintro e w13 ⟨rfl, b13, _⟩
            have hA10 := hA9.after b13
            have o13 := o12.after b13
            clear hA9 b13 o12 hs2
            have cC := ms_crash hA10 vc ch (hC1.below hA10.b) (fun hne b hb hs => by have := hC1.blk (by simpa using hne) b hb; have := hA10.from b hs; omega) (fun c hc => hCF c hc) hCn (fun z => by simp [noV])
            rw [crash_noV] at cC
            go_wp2_with (fail)
            refine cC.mono ?_
            rintro e w14 ⟨rfl, hs14, hA11⟩
            have o14 := o13.step hs14 hxS
            clear hA10 hs14 o13 cC
            go_wp2_with (fail)
            refine (ms_image hA11).mono ?_
            rintro e w15 ⟨z2, rfl, b15, o15⟩
            rw [hL8] at o15 ⊢
            have hA12 := hA11.after b15
            have o16 := o14.after b15
            have hs3 := same_any _ _ L L w15 o15.reads o16.reads (by omega) (by omega)
            rw [decide_eq_true rfl] at hs3
            have hfin := Lib.hid (hb1H.out.trans (hA12.b.mono hb1H.out.size))
            clear hA11 b15 o15 o14 o16 hA12
            go_wp2_with (fail)
            refine hs3.mono ?_
            rintro e w16 ⟨rfl, b16, _⟩
            go_wp2_with (fail)
            go_ret
            exact ⟨rfl, hfin.out.trans (b16.mono hfin.out.size)⟩
end Go.Proofs.Ytbokglifgacodaa

