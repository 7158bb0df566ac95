/- member: MemberRots. -/
import Derived.Test.YtbokglifgacodaaMemSame
import Derived.Test.YtbokglifgacodaaMemLaw3
namespace Go.Proofs.Ytbokglifgacodaa
open Go.RowKit
set_option linter.unusedVariables false
set_option linter.unusedSimpArgs false

theorem rotS_data (s : ByteArray) (j b : Nat) : (rotS s j b).data.toList = s.data.toList.set j (UInt8.ofNat ((s.data.toList.getD j 0).toNat ^^^ b)) := by unfold rotS lineOf; simp
theorem rotS_twice (s : ByteArray) (j b : Nat) (hs : s.size = 128) (hj : j < 128) (hb : b < 256) : rotS (rotS s j b) j b = s := by
  have hl : s.data.toList.length = 128 := by rw [Array.length_toList]; exact hs
  have hx := xor8_lt (s.data.toList.getD j 0).toNat_lt hb
  have e : (rotS (rotS s j b) j b).data.toList = s.data.toList := by
    rw [rotS_data, rotS_data]
    have e1 : (s.data.toList.set j (UInt8.ofNat ((s.data.toList.getD j 0).toNat ^^^ b))).getD j 0 = UInt8.ofNat ((s.data.toList.getD j 0).toNat ^^^ b) := by
      rw [List.getD_eq_getElem?_getD, List.getElem?_set, if_pos rfl, if_pos (by omega)]; rfl
    rw [e1, List.set_set]
    have e2 : (UInt8.ofNat ((s.data.toList.getD j 0).toNat ^^^ b)).toNat = (s.data.toList.getD j 0).toNat ^^^ b := by
      rw [UInt8.toNat_ofNat']; exact Nat.mod_eq_of_lt hx
    rw [e2, Nat.xor_assoc, Nat.xor_self, Nat.xor_zero]
    apply List.ext_getElem?
    intro i
    rw [List.getElem?_set]
    by_cases h : j = i
    · subst h
      rw [if_pos rfl, if_pos (by omega), List.getD_eq_getElem?_getD, List.getElem?_eq_getElem (by omega)]
      simp
    · rw [if_neg h]
  have : (rotS (rotS s j b) j b).data = s.data := Array.toList_inj.1 e
  exact congrArg ByteArray.mk this
/-- The byte at i. -/
def byt (s : ByteArray) (i : Nat) : Nat := (s.data.toList.getD i 0).toNat
theorem byt_at (s : ByteArray) (i : Nat) (h : i < s.size) : byt s i = (s[i]'h).toNat := by
  unfold byt
  rw [List.getD_eq_getElem?_getD, List.getElem?_eq_getElem (by rw [Array.length_toList]; exact h)]; rfl
theorem byt_lt (s : ByteArray) (i : Nat) : byt s i < 256 := (s.data.toList.getD i 0).toNat_lt
theorem rotS_byt (s : ByteArray) (j b : Nat) (hs : s.size = 128) (hj : j < 128) (hb : b < 256) (i : Nat) (hi : i < 128) : byt (rotS s j b) i ^^^ byt s i = if i = j then b else 0 := by
  have hl : s.data.toList.length = 128 := by rw [Array.length_toList]; exact hs
  have hx := xor8_lt (s.data.toList.getD j 0).toNat_lt hb
  unfold byt
  rw [rotS_data]
  by_cases h : i = j
  · subst h
    rw [if_pos rfl, List.getD_eq_getElem?_getD (l := s.data.toList.set _ _), List.getElem?_set, if_pos rfl, if_pos (by omega), Option.getD_some, UInt8.toNat_ofNat', Nat.mod_eq_of_lt hx, Nat.xor_comm, ← Nat.xor_assoc, Nat.xor_self, Nat.zero_xor]
  · rw [if_neg h, List.getD_eq_getElem?_getD (l := s.data.toList.set _ _), List.getElem?_set, if_neg (Ne.symm h), ← List.getD_eq_getElem?_getD, Nat.xor_self]
set_option maxRecDepth 100000 in
set_option maxHeartbeats 4000000 in
theorem rots_walk (v : Value) (ls : List Int) (a1 a2 a3 : Int) (w : World) (hR : Reads w v (ls.map (.int .i64))) (hF : ∀ n ∈ ls, (Lit.int .i64 n).wf = true)
    (n1 : -9223372036854775808 ≤ a1 ∧ a1 ≤ 9223372036854775807) (n2 : -9223372036854775808 ≤ a2 ∧ a2 ≤ 9223372036854775807) (n3 : -9223372036854775808 ≤ a3 ∧ a3 ≤ 9223372036854775807) :
    Calls Try.prog 7 #[v, .int .i64 a1, .int .i64 a2, .int .i64 a3] w (Ends w true) := by
  have cN : ∀ W, Calls Try.prog 11 #[.int .i64 8] W fun e w' => ∃ S m g bp cap, e = .returned (.tuple #[.pointer (some ⟨m, 0, none⟩), .int .i64 0]) ∧ MS W S w' m g bp cap false (List.replicate 8 zero128) noV := fun W => ms_new 8 W (by omega) (by omega)
  have hIn : ∀ k, k < ls.length → In64 (ls.getD k 0) := fun k hk => by
    rw [List.getD_eq_getElem?_getD, List.getElem?_eq_getElem hk]; exact hF _ (List.getElem_mem hk)
  have hlenv := fun W => hR.len_run (P := Try.prog) Try.underlying31 3 W
  rw [List.length_map] at hlenv
  obtain ⟨n, hn⟩ : ∃ r, pickC a1 % 8 = r := ⟨_, rfl⟩
  have hn8 : n < 8 := by rw [← hn]; exact Nat.mod_lt _ (by omega)
  have cp1 : ∀ W, Calls Try.prog 13 #[.int .i64 a1, .int .i64 8] W fun e w' => e = .returned (.int .i64 (n : Int)) ∧ W = w' := fun W => by
    have := pick_any a1 8 (in64_iff.2 n1) (by omega) (by omega) W
    rw [hn] at this; exact this
  obtain ⟨j, hj⟩ : ∃ r, pickC a2 % 128 = r := ⟨_, rfl⟩
  have hj8 : j < 128 := by rw [← hj]; exact Nat.mod_lt _ (by omega)
  have cp2 : ∀ W, Calls Try.prog 13 #[.int .i64 a2, .int .i64 128] W fun e w' => e = .returned (.int .i64 (j : Int)) ∧ W = w' := fun W => by
    have := pick_any a2 128 (in64_iff.2 n2) (by omega) (by omega) W
    rw [hj] at this; exact this
  obtain ⟨b, hb⟩ : ∃ r, pickC a3 % 255 = r := ⟨_, rfl⟩
  have hb8 : b < 255 := by rw [← hb]; exact Nat.mod_lt _ (by omega)
  have cp3 : ∀ W, Calls Try.prog 13 #[.int .i64 a3, .int .i64 255] W fun e w' => e = .returned (.int .i64 (b : Int)) ∧ W = w' := fun W => by
    have := pick_any a3 255 (in64_iff.2 n3) (by omega) (by omega) W
    rw [hb] at this; exact this
  have hRep : (List.replicate 8 zero128).length = 8 := by simp
  clear hF n1 n2 n3 hn hj hb
  go_enter Try.func7, Try.ntmps7
  go_wp2_with (fail)
  refine (awake_any _).mono ?_
  rintro e w1 ⟨rfl, b1⟩
  have hR1 := hR.below b1
  go_wp2_with (fail)
  refine (cN _).mono ?_
  rintro e w2 ⟨S0, m, g, bp, cap, rfl, h1⟩
  have hb1H := Lib.hid b1
  clear b1 cN hR
  go_wp2_with (fail)
  go_loopw [12] (fun t wr => ∃ (k : Nat) (S : Nat → Prop) (V : Int → List ByteArray), k ≤ 50 ∧ k ≤ ls.length ∧ t = .int .i64 (k : Int) ∧ MS w1 S wr m g bp cap false (List.replicate 8 zero128) V ∧ ∀ z, (V z).length ≤ k) (fun t _ => 50 - (intOf t).toNat)
  case atStart => exact ⟨0, S0, _, by omega, by omega, rfl, h1, fun z => by simp [noV]⟩
  case round =>
    clear h1
    obtain ⟨k, S, V, hk50, hkl, rfl, hB, hVk⟩ := hrel
    by_cases hlt : k < ls.length ∧ k < 50
    · clear cp1 cp2 cp3 hn8 hj8 hb8
      obtain ⟨hl1, hl2⟩ := hlt
      obtain ⟨va, vcap, rfl, vcell⟩ := hR1.nums
      obtain ⟨cb, co, rfl, clt1, cc1⟩ := vcell k hl1
      have hcI := hIn k hl1
      obtain ⟨c, hc⟩ : ∃ c, ls.getD k 0 = c := ⟨_, rfl⟩
      rw [hc] at hcI cc1
      have cc := (hB.b.cell (p := ⟨cb, co + k, none⟩) clt1).trans cc1
      have clt := Nat.lt_of_lt_of_le clt1 hB.b.size
      obtain ⟨r, hr⟩ : ∃ r, pickC c % 8 = r := ⟨_, rfl⟩
      have hr8 : r < 8 := by rw [← hr]; exact Nat.mod_lt _ (by omega)
      have cp : ∀ W, Calls Try.prog 13 #[.int .i64 c, .int .i64 8] W fun e w' => e = .returned (.int .i64 (r : Int)) ∧ W = w' := fun W => by
        have := pick_any c 8 hcI (by omega) (by omega) W
        rw [hr] at this; exact this
      have cS := fun W => sector_q c hcI W
      have k1 : (k : Int) < (ls.length : Int) := by omega
      have k2 : (k : Int) < 50 := by omega
      clear vcell
      go_wp2_with (fail)
      refine wp_region_cls_tail (Below wr.heap.size wr) 11 (by kernel_rfl) (by kernel_rfl) (Below.refl _ _).drew ?_
      intro Z f hne hD hE
      have r1 : ∀ z, (f z).cell? ⟨cb, co + k, none⟩ = some (.int .i64 c) := fun z => (clsCell hD z _ _ clt).trans cc
      simp only [List.take_succ_cons, List.take_zero, List.drop_succ_cons, List.drop_zero]
      iterate 11 (go_big_quiet_step (first | (go_at_call 13; with_reducible exact toQ _ (cp _)) | (go_at_call 15; with_reducible exact toQB hD hE _ (cS _))))
      refine wpQuiet_nil ?_
      intro _ hw'
      obtain ⟨zq, hw''⟩ := hw'
      subst hw''
      have hB2 := hB.after (hD zq)
      obtain ⟨wz, hwz⟩ : ∃ wz, f zq = wz := ⟨_, rfl⟩
      rw [hwz] at hB2 ⊢
      clear r1 hE hD hwz zq hB
      have cW := ms_write hB2 r (by omega) (sec c) (sec_size c) (by have := hVk r; omega)
      clear cc clt
      go_wp2_with (fail)
      refine cW.mono ?_
      rintro e w4 ⟨S4, rfl, hs4, hB4⟩
      clear cW hB2 hs4
      have hV4 := updV_le hVk r (sec c)
      generalize updZ V (r : Int) (V (r : Int) ++ [sec c]) = V4 at *
      go_wp2_with (fail)
      go_roundw
      case rel => exact ⟨k + 1, S4, V4, by omega, by omega, by go_num, hB4, hV4⟩
      case measure => simp [intOf]; omega
    · have hcd : ((k : Int) < (ls.length : Int) ∧ ¬ ((k : Int) < 50)) ∨ ¬ ((k : Int) < (ls.length : Int)) := by omega
      have cF := ms_flush hB (fun z => by have := hVk z; omega)
      obtain ⟨L, hL⟩ : ∃ L, flush (List.replicate 8 zero128) V = L := ⟨_, rfl⟩
      have hL8 : L.length = 8 := by rw [← hL, flush_len]; exact hRep
      rw [hL] at cF
      clear hIn hlt hR1 hB hL hVk
      rcases hcd with ⟨kx, k50⟩ | kx
      · skip
        go_wp2_with (fail)
        refine cF.mono ?_
        rintro e w3 ⟨rfl, hs3, hB3⟩
        clear hs3 cF
        go_wp2_with (fail)
        refine (ms_image hB3).mono ?_
        rintro e w4 ⟨x, rfl, b4, o4⟩
        rw [hL8] at o4 ⊢
        have hB4 := hB3.after b4
        have hxS : ¬ S x := fun hs => by have := o4.lt.1; have := hB3.lt x hs; omega
        clear hB3
        go_wp2_with (fail)
        refine (cp1 _).mono ?_
        rintro e w' ⟨rfl, rfl⟩
        go_wp2_with (fail)
        refine (cp2 _).mono ?_
        rintro e w' ⟨rfl, rfl⟩
        go_wp2_with (fail)
        refine (cp3 _).mono ?_
        rintro e w' ⟨rfl, rfl⟩
        clear cp1 cp2 cp3
        obtain ⟨q, hq⟩ : ∃ q, b + 1 = q := ⟨_, rfl⟩
        have hq8 : q < 256 := by omega
        have hq1 : 1 ≤ q := by omega
        have wb : IntKind.i64.wrap (1 + (b : Int)) = (q : Int) := wrap_add _ _ (by omega) (by omega) (by omega)
        have hrB : rotB false L noV n j q = true := by
          unfold rotB hasN noV
          rw [hL8]
          simp
          omega
        have hnl : n < L.length := by omega
        have cR := ms_rot hB4 n j q hrB hnl hj8 hq8
        have hsz : L[n].size = 128 := hB4.zl _ (List.getElem_mem hnl)
        obtain ⟨t, ht⟩ : ∃ t, L[n] = t := ⟨_, rfl⟩
        rw [ht] at cR hsz
        have htg : L.getD n zero128 = t := by rw [List.getD_eq_getElem?_getD, List.getElem?_eq_getElem hnl, Option.getD_some, ht]
        clear hq hb8 hrB ht
        go_wp2_with (fail)
        refine cR.mono ?_
        rintro e w5 ⟨rfl, hs5, hB5⟩
        have o5 := o4.sameBlock (hs5.oth x o4.lt.2 hxS)
        have hxl5 := Nat.lt_of_lt_of_le o4.lt.2 hs5.b0.size
        obtain ⟨L1, hL1⟩ : ∃ L1, L.set n (rotS t j q) = L1 := ⟨_, rfl⟩
        rw [hL1] at hB5
        have hL18 : L1.length = 8 := by rw [← hL1, List.length_set]; exact hL8
        have hx1 : ∀ i : Nat, i < 8 → i ≠ n → L1.getD i zero128 = L.getD i zero128 := fun i hi hne => by
          rw [← hL1, List.getD_eq_getElem?_getD, List.getElem?_set, if_neg (Ne.symm hne), ← List.getD_eq_getElem?_getD]
        have hx2 : L1.getD n zero128 = rotS t j q := by
          rw [← hL1, List.getD_eq_getElem?_getD, List.getElem?_set, if_pos rfl, if_pos hnl]; rfl
        have hback : L1.set n (rotS (rotS t j q) j q) = L := by
          rw [← hL1, List.set_set, rotS_twice t j q hsz hj8 hq8]
          apply List.ext_getElem?
          intro i
          rw [List.getElem?_set]
          by_cases e : n = i
          · subst e
            rw [if_pos rfl, if_pos hnl, ← htg, List.getD_eq_getElem?_getD, List.getElem?_eq_getElem hnl]; rfl
          · rw [if_neg e]
        clear hL1 hs5 cR o4 hB4
        go_wp2_with (fail)
        refine (ms_image hB5).mono ?_
        rintro e w6 ⟨y, rfl, b6, o6⟩
        rw [hL18] at o6 ⊢
        have o7 := o5.after b6
        have hB6 := hB5.after b6
        have hyS : ¬ S y := fun hs => by have := o6.lt.1; have := hB5.lt y hs; omega
        clear o5 hB5 b6
        have cx : ∀ i : Nat, i < 8 → w6.cell? ⟨x, i, none⟩ = some (.string (L.getD i zero128)) := fun i hi => by
          rw [o7.cell (i := i) (by rw [List.length_map]; omega), List.getD_eq_getElem?_getD, List.getElem?_map, List.getElem?_eq_getElem (by omega), List.getD_eq_getElem?_getD, List.getElem?_eq_getElem (by omega)]; rfl
        have cy : ∀ i : Nat, i < 8 → w6.cell? ⟨y, i, none⟩ = some (.string (L1.getD i zero128)) := fun i hi => by
          rw [o6.cell (i := i) (by rw [List.length_map]; omega), List.getD_eq_getElem?_getD, List.getElem?_map, List.getElem?_eq_getElem (by omega), List.getD_eq_getElem?_getD, List.getElem?_eq_getElem (by omega)]; rfl
        have hxl := o7.lt.2
        have hyl := o6.lt.2
        go_wp2_with (fail)
        go_loopw [15] (fun t wq => ∃ i : Nat, i ≤ 8 ∧ t = .int .i64 (i : Int) ∧ Quiet w6 wq) (fun t _ => 8 - (intOf t).toNat)
        case atStart => exact ⟨0, by omega, rfl, Quiet.refl _⟩
        case round =>
          obtain ⟨i, hi, rfl, hqq⟩ := hrel
          by_cases hi8 : i < 8
          · have i1 : (i : Int) < 8 := by omega
            by_cases hin : i = n
            · have t1 : ((i : Int) != (n : Int)) = false := by rw [hin]; exact bne_self_eq_false _
              have t2 : ((i : Int) == (n : Int)) = true := by rw [hin]; exact beq_self_eq_true _
              clear hin
              go_wp2_with (fail)
              go_quiet (fail)
              go_wp2
              go_roundw
              case rel => exact ⟨i + 1, by omega, by go_num, hqq.drewN _⟩
              case measure => simp [intOf]; omega
            · have t1 : ((i : Int) != (n : Int)) = true := by rw [bne_iff_ne]; omega
              have t2 : ((i : Int) == (n : Int)) = false := by rw [beq_eq_false_iff_ne]; omega
              have cx0 := (hqq.cell ⟨x, i, none⟩).trans (cx i hi8)
              have cy0 := (hqq.cell ⟨y, i, none⟩).trans (cy i hi8)
              rw [hx1 i hi8 hin] at cy0
              clear hin
              generalize L.getD i zero128 = u at cx0 cy0
              go_wp2_with (fail)
              go_quiet (fail)
              go_wp2
              go_roundw
              case rel => exact ⟨i + 1, by omega, by go_num, hqq.drewN _⟩
              case measure => simp [intOf]; omega
          · obtain rfl : i = 8 := by omega
            clear hi hi8
            go_wp2_with (fail)
            go_loopw [16, 17] (fun t _ wq => ∃ i : Nat, i ≤ 128 ∧ t = .int .i64 (i : Int) ∧ Quiet w6 wq) (fun t _ _ => 128 - (intOf t).toNat)
            case atStart => exact ⟨0, by omega, rfl, hqq⟩
            case round =>
              clear hqq
              obtain ⟨i, hi, rfl, hqq⟩ := hrel
              by_cases hi8 : i < 128
              · have i1 : (i : Int) < 128 := by omega
                have cx0 := (hqq.cell ⟨x, n, none⟩).trans (cx n hn8)
                have cy0 := (hqq.cell ⟨y, n, none⟩).trans (cy n hn8)
                rw [htg] at cx0
                rw [hx2] at cy0
                have hby := rotS_byt t j q hsz hj8 hq8 i hi8
                have hsz2 := rotS_size t j q hsz
                generalize rotS t j q = t2 at cx0 cy0 hby hsz2
                have n1 : (n : Int) < 8 := by omega
                have i2 : (i : Int) < (t.size : Int) := by omega
                have i3 : (i : Int) < (t2.size : Int) := by omega
                have hbi : bits .xor .u8 (((t2[i]'(by omega)).toNat : Nat) : Int) (((t[i]'(by omega)).toNat : Nat) : Int) = ((byt t2 i ^^^ byt t i : Nat) : Int) := by
                  rw [← byt_at t2 i (by omega), ← byt_at t i (by omega)]
                  exact xor8m _ _ (byt_lt t2 i) (byt_lt t i)
                rw [hby] at hbi
                by_cases hij : i = j
                · rw [if_pos hij] at hbi
                  have t1 : ((i : Int) != (j : Int)) = false := by rw [hij]; exact bne_self_eq_false _
                  have t2 : ((i : Int) == (j : Int)) = true := by rw [hij]; exact beq_self_eq_true _
                  clear hij hby
                  go_wp2_with (fail)
                  go_quiet (fail)
                  go_wp2_with (fail)
                  go_roundw
                  case rel => exact ⟨i + 1, by omega, by go_num, hqq.drewN _⟩
                  case measure => simp [intOf]; omega
                · rw [if_neg hij] at hbi
                  have t1 : ((i : Int) != (j : Int)) = true := by rw [bne_iff_ne]; omega
                  have t2 : ((i : Int) == (j : Int)) = false := by rw [beq_eq_false_iff_ne]; omega
                  clear hij hby
                  go_wp2_with (fail)
                  go_quiet (fail)
                  go_wp2_with (fail)
                  go_roundw
                  case rel => exact ⟨i + 1, by omega, by go_num, hqq.drewN _⟩
                  case measure => simp [intOf]; omega
              · obtain rfl : i = 128 := by omega
                clear hi hi8 cx cy hx1
                have hB7 := hB6.after (hqq.1.mono (by omega))
                have o8 := o7.after (hqq.1)
                have hrB2 : rotB false L1 noV n j q = true := by
                  unfold rotB hasN noV
                  rw [hL18]
                  simp
                  omega
                have cR := ms_rot hB7 n j q hrB2 (by omega) hj8 hq8
                have e7 : L1[n]'(by omega) = rotS t j q := by rw [← hx2, List.getD_eq_getElem?_getD, List.getElem?_eq_getElem (by omega)]; rfl
                rw [e7, hback] at cR
                clear e7 hrB2 hB6 o7 o6 hqq hyl hyS
                go_wp2_with (fail)
                refine cR.mono ?_
                rintro e w8 ⟨rfl, hs8, hB8⟩
                have o9 := o8.sameBlock (hs8.oth x o8.lt.2 hxS)
                clear hs8 cR hB7 o8
                go_wp2_with (fail)
                refine (ms_image hB8).mono ?_
                rintro e w9 ⟨z, rfl, b9, o10⟩
                have o11 := o9.after b9
                have hB9 := hB8.after b9
                rw [hL8] at o10 ⊢
                have hsame := same_any _ _ L L w9 o10.reads o11.reads (by omega) (by omega)
                rw [decide_eq_true rfl] at hsame
                have hfin := Lib.hid (hb1H.out.trans (hB9.b.mono hb1H.out.size))
                have hss := hB9.b.size
                clear o9 o10 o11 hB9 hB8 b9
                go_wp2_with (fail)
                refine hsame.mono ?_
                rintro e w10 ⟨rfl, b10, _⟩
                go_wp2_with (fail)
                go_ret
                exact ⟨rfl, hfin.out.trans (b10.mono hfin.out.size)⟩
      · skip
        go_wp2_with (fail)
        refine cF.mono ?_
        rintro e w3 ⟨rfl, hs3, hB3⟩
        clear hs3 cF
        go_wp2_with (fail)
        refine (ms_image hB3).mono ?_
        rintro e w4 ⟨x, rfl, b4, o4⟩
        rw [hL8] at o4 ⊢
        have hB4 := hB3.after b4
        have hxS : ¬ S x := fun hs => by have := o4.lt.1; have := hB3.lt x hs; omega
        clear hB3
        go_wp2_with (fail)
        refine (cp1 _).mono ?_
        rintro e w' ⟨rfl, rfl⟩
        go_wp2_with (fail)
        refine (cp2 _).mono ?_
        rintro e w' ⟨rfl, rfl⟩
        go_wp2_with (fail)
        refine (cp3 _).mono ?_
        rintro e w' ⟨rfl, rfl⟩
        clear cp1 cp2 cp3
        obtain ⟨q, hq⟩ : ∃ q, b + 1 = q := ⟨_, rfl⟩
        have hq8 : q < 256 := by omega
        have hq1 : 1 ≤ q := by omega
        have wb : IntKind.i64.wrap (1 + (b : Int)) = (q : Int) := wrap_add _ _ (by omega) (by omega) (by omega)
        have hrB : rotB false L noV n j q = true := by
          unfold rotB hasN noV
          rw [hL8]
          simp
          omega
        have hnl : n < L.length := by omega
        have cR := ms_rot hB4 n j q hrB hnl hj8 hq8
        have hsz : L[n].size = 128 := hB4.zl _ (List.getElem_mem hnl)
        obtain ⟨t, ht⟩ : ∃ t, L[n] = t := ⟨_, rfl⟩
        rw [ht] at cR hsz
        have htg : L.getD n zero128 = t := by rw [List.getD_eq_getElem?_getD, List.getElem?_eq_getElem hnl, Option.getD_some, ht]
        clear hq hb8 hrB ht
        go_wp2_with (fail)
        refine cR.mono ?_
        rintro e w5 ⟨rfl, hs5, hB5⟩
        have o5 := o4.sameBlock (hs5.oth x o4.lt.2 hxS)
        have hxl5 := Nat.lt_of_lt_of_le o4.lt.2 hs5.b0.size
        obtain ⟨L1, hL1⟩ : ∃ L1, L.set n (rotS t j q) = L1 := ⟨_, rfl⟩
        rw [hL1] at hB5
        have hL18 : L1.length = 8 := by rw [← hL1, List.length_set]; exact hL8
        have hx1 : ∀ i : Nat, i < 8 → i ≠ n → L1.getD i zero128 = L.getD i zero128 := fun i hi hne => by
          rw [← hL1, List.getD_eq_getElem?_getD, List.getElem?_set, if_neg (Ne.symm hne), ← List.getD_eq_getElem?_getD]
        have hx2 : L1.getD n zero128 = rotS t j q := by
          rw [← hL1, List.getD_eq_getElem?_getD, List.getElem?_set, if_pos rfl, if_pos hnl]; rfl
        have hback : L1.set n (rotS (rotS t j q) j q) = L := by
          rw [← hL1, List.set_set, rotS_twice t j q hsz hj8 hq8]
          apply List.ext_getElem?
          intro i
          rw [List.getElem?_set]
          by_cases e : n = i
          · subst e
            rw [if_pos rfl, if_pos hnl, ← htg, List.getD_eq_getElem?_getD, List.getElem?_eq_getElem hnl]; rfl
          · rw [if_neg e]
        clear hL1 hs5 cR o4 hB4
        go_wp2_with (fail)
        refine (ms_image hB5).mono ?_
        rintro e w6 ⟨y, rfl, b6, o6⟩
        rw [hL18] at o6 ⊢
        have o7 := o5.after b6
        have hB6 := hB5.after b6
        have hyS : ¬ S y := fun hs => by have := o6.lt.1; have := hB5.lt y hs; omega
        clear o5 hB5 b6
        have cx : ∀ i : Nat, i < 8 → w6.cell? ⟨x, i, none⟩ = some (.string (L.getD i zero128)) := fun i hi => by
          rw [o7.cell (i := i) (by rw [List.length_map]; omega), List.getD_eq_getElem?_getD, List.getElem?_map, List.getElem?_eq_getElem (by omega), List.getD_eq_getElem?_getD, List.getElem?_eq_getElem (by omega)]; rfl
        have cy : ∀ i : Nat, i < 8 → w6.cell? ⟨y, i, none⟩ = some (.string (L1.getD i zero128)) := fun i hi => by
          rw [o6.cell (i := i) (by rw [List.length_map]; omega), List.getD_eq_getElem?_getD, List.getElem?_map, List.getElem?_eq_getElem (by omega), List.getD_eq_getElem?_getD, List.getElem?_eq_getElem (by omega)]; rfl
        have hxl := o7.lt.2
        have hyl := o6.lt.2
        go_wp2_with (fail)
        go_loopw [15] (fun t wq => ∃ i : Nat, i ≤ 8 ∧ t = .int .i64 (i : Int) ∧ Quiet w6 wq) (fun t _ => 8 - (intOf t).toNat)
        case atStart => exact ⟨0, by omega, rfl, Quiet.refl _⟩
        case round =>
          obtain ⟨i, hi, rfl, hqq⟩ := hrel
          by_cases hi8 : i < 8
          · have i1 : (i : Int) < 8 := by omega
            by_cases hin : i = n
            · have t1 : ((i : Int) != (n : Int)) = false := by rw [hin]; exact bne_self_eq_false _
              have t2 : ((i : Int) == (n : Int)) = true := by rw [hin]; exact beq_self_eq_true _
              clear hin
              go_wp2_with (fail)
              go_quiet (fail)
              go_wp2
              go_roundw
              case rel => exact ⟨i + 1, by omega, by go_num, hqq.drewN _⟩
              case measure => simp [intOf]; omega
            · have t1 : ((i : Int) != (n : Int)) = true := by rw [bne_iff_ne]; omega
              have t2 : ((i : Int) == (n : Int)) = false := by rw [beq_eq_false_iff_ne]; omega
              have cx0 := (hqq.cell ⟨x, i, none⟩).trans (cx i hi8)
              have cy0 := (hqq.cell ⟨y, i, none⟩).trans (cy i hi8)
              rw [hx1 i hi8 hin] at cy0
              clear hin
              generalize L.getD i zero128 = u at cx0 cy0
              go_wp2_with (fail)
              go_quiet (fail)
              go_wp2
              go_roundw
              case rel => exact ⟨i + 1, by omega, by go_num, hqq.drewN _⟩
              case measure => simp [intOf]; omega
          · obtain rfl : i = 8 := by omega
            clear hi hi8
            go_wp2_with (fail)
            go_loopw [16, 17] (fun t _ wq => ∃ i : Nat, i ≤ 128 ∧ t = .int .i64 (i : Int) ∧ Quiet w6 wq) (fun t _ _ => 128 - (intOf t).toNat)
            case atStart => exact ⟨0, by omega, rfl, hqq⟩
            case round =>
              clear hqq
              obtain ⟨i, hi, rfl, hqq⟩ := hrel
              by_cases hi8 : i < 128
              · have i1 : (i : Int) < 128 := by omega
                have cx0 := (hqq.cell ⟨x, n, none⟩).trans (cx n hn8)
                have cy0 := (hqq.cell ⟨y, n, none⟩).trans (cy n hn8)
                rw [htg] at cx0
                rw [hx2] at cy0
                have hby := rotS_byt t j q hsz hj8 hq8 i hi8
                have hsz2 := rotS_size t j q hsz
                generalize rotS t j q = t2 at cx0 cy0 hby hsz2
                have n1 : (n : Int) < 8 := by omega
                have i2 : (i : Int) < (t.size : Int) := by omega
                have i3 : (i : Int) < (t2.size : Int) := by omega
                have hbi : bits .xor .u8 (((t2[i]'(by omega)).toNat : Nat) : Int) (((t[i]'(by omega)).toNat : Nat) : Int) = ((byt t2 i ^^^ byt t i : Nat) : Int) := by
                  rw [← byt_at t2 i (by omega), ← byt_at t i (by omega)]
                  exact xor8m _ _ (byt_lt t2 i) (byt_lt t i)
                rw [hby] at hbi
                by_cases hij : i = j
                · rw [if_pos hij] at hbi
                  have t1 : ((i : Int) != (j : Int)) = false := by rw [hij]; exact bne_self_eq_false _
                  have t2 : ((i : Int) == (j : Int)) = true := by rw [hij]; exact beq_self_eq_true _
                  clear hij hby
                  go_wp2_with (fail)
                  go_quiet (fail)
                  go_wp2_with (fail)
                  go_roundw
                  case rel => exact ⟨i + 1, by omega, by go_num, hqq.drewN _⟩
                  case measure => simp [intOf]; omega
                · rw [if_neg hij] at hbi
                  have t1 : ((i : Int) != (j : Int)) = true := by rw [bne_iff_ne]; omega
                  have t2 : ((i : Int) == (j : Int)) = false := by rw [beq_eq_false_iff_ne]; omega
                  clear hij hby
                  go_wp2_with (fail)
                  go_quiet (fail)
                  go_wp2_with (fail)
                  go_roundw
                  case rel => exact ⟨i + 1, by omega, by go_num, hqq.drewN _⟩
                  case measure => simp [intOf]; omega
              · obtain rfl : i = 128 := by omega
                clear hi hi8 cx cy hx1
                have hB7 := hB6.after (hqq.1.mono (by omega))
                have o8 := o7.after (hqq.1)
                have hrB2 : rotB false L1 noV n j q = true := by
                  unfold rotB hasN noV
                  rw [hL18]
                  simp
                  omega
                have cR := ms_rot hB7 n j q hrB2 (by omega) hj8 hq8
                have e7 : L1[n]'(by omega) = rotS t j q := by rw [← hx2, List.getD_eq_getElem?_getD, List.getElem?_eq_getElem (by omega)]; rfl
                rw [e7, hback] at cR
                clear e7 hrB2 hB6 o7 o6 hqq hyl hyS
                go_wp2_with (fail)
                refine cR.mono ?_
                rintro e w8 ⟨rfl, hs8, hB8⟩
                have o9 := o8.sameBlock (hs8.oth x o8.lt.2 hxS)
                clear hs8 cR hB7 o8
                go_wp2_with (fail)
                refine (ms_image hB8).mono ?_
                rintro e w9 ⟨z, rfl, b9, o10⟩
                have o11 := o9.after b9
                have hB9 := hB8.after b9
                rw [hL8] at o10 ⊢
                have hsame := same_any _ _ L L w9 o10.reads o11.reads (by omega) (by omega)
                rw [decide_eq_true rfl] at hsame
                have hfin := Lib.hid (hb1H.out.trans (hB9.b.mono hb1H.out.size))
                have hss := hB9.b.size
                clear o9 o10 o11 hB9 hB8 b9
                go_wp2_with (fail)
                refine hsame.mono ?_
                rintro e w10 ⟨rfl, b10, _⟩
                go_wp2_with (fail)
                go_ret
                exact ⟨rfl, hfin.out.trans (b10.mono hfin.out.size)⟩
end Go.Proofs.Ytbokglifgacodaa

