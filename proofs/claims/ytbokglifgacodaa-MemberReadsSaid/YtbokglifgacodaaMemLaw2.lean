/- member: MemberReads, the walk. -/
import Derived.Test.YtbokglifgacodaaMemX
namespace Go.Proofs.Ytbokglifgacodaa
open Go.RowKit
set_option linter.unusedVariables false
set_option linter.unusedSimpArgs false

theorem str_is : ∃ i, Try.prog.info? 9 = some i ∧ i.zero = some (.string ⟨#[]⟩) ∧ i.size = 1 ∧ i.bytes = 16 := (cont_gen (P := Try.prog) (t := 9) (c := .string ⟨#[]⟩) (n := 1) (k := 16) (by kernel_rfl)).2
set_option maxRecDepth 100000 in
set_option maxHeartbeats 4000000 in
theorem reads_walk (v : Value) (ls : List Int) (a1 : Int) (s : ByteArray) (w : World) (hR : Reads w v (ls.map (.int .i64))) (hF : ∀ n ∈ ls, (Lit.int .i64 n).wf = true) (hLs : ls.length ≤ 140737488355328)
    (n1 : -9223372036854775808 ≤ a1 ∧ a1 ≤ 9223372036854775807) :
    Calls Try.prog 9 #[v, .int .i64 a1, .string s] w (Ends w true) := by
  have hIn : ∀ k, k < ls.length → In64 (ls.getD k 0) := fun k hk => by
    rw [List.getD_eq_getElem?_getD, List.getElem?_eq_getElem hk]; exact hF _ (List.getElem_mem hk)
  have cN : ∀ W, Calls Try.prog 11 #[.int .i64 8] W fun e w' => ∃ m g bp cap, MBs W m g bp cap (List.replicate 8 zero128) noV (.tuple #[.pointer (some ⟨m, 0, none⟩), .int .i64 0]) e w' := fun W => mb_new 8 W (by omega) (by omega)
  have hRep : (List.replicate 8 zero128).length = 8 := by simp
  have hlen := fun W => hR.len_run (P := Try.prog) Try.underlying31 3 W
  rw [List.length_map] at hlen
  obtain ⟨va, vcap, rfl, vcell⟩ := hR.nums
  have cZ : ∀ W, Calls Try.prog 15 #[.int .i64 0] W (GivesS W zero128) := fun W => by
    have := sector_any 0 (in64_iff.2 (by omega)) W
    rw [sec_zero] at this; exact this
  clear hF hlen
  go_enter Try.func9, Try.ntmps9
  go_wp2_with (fail)
  refine (awake_any _).mono ?_
  rintro e w1 ⟨rfl, b1⟩
  go_wp2_with (fail)
  refine (cN _).mono ?_
  rintro e w2 ⟨m, g, bp, cap, rfl, h1⟩
  clear cN
  obtain ⟨si, s1, s2, s3, s4⟩ := str_is
  obtain ⟨w3, hmk, hO, hb3⟩ := Own.make_run (P := Try.prog) (T := 47) Try.underlying47 s1 s2 s3 s4 rfl w2 8 (by omega) (by omega)
  obtain ⟨x, hx⟩ : ∃ x, w2.heap.size = x := ⟨_, rfl⟩
  rw [hx] at hmk hO
  replace hmk : (Instr.makeSlice 47 (.int .i64 8) (.int .i64 8)).run Try.prog w2 = .ok (.slice (some ⟨x, 0, none⟩) 8 8) w3 := hmk
  have hxl : x < w3.heap.size := (hO.o.lt x rfl).2
  have h3 := h1.mbx hb3 (x := x) (by omega) hxl
  have hR1 : Reads w1 (.slice va ls.length vcap) (ls.map (.int .i64)) := hR.below b1
  have hb1H := Lib.hid b1
  rw [← filS_zero] at hO
  clear h1 hb3 hx hxl s1 s2 s3 s4 b1 hR vcell
  go_wp2_with (fail)
  go_loopw [11] (fun t wr => ∃ k : Nat, k ≤ 8 ∧ t = .int .i64 (k : Int) ∧ MBx w1 wr x m g bp cap (List.replicate 8 zero128) noV ∧ Own wr x 9 (.slice (some ⟨x, 0, none⟩) 8 8) (filS k)) (fun t _ => 8 - (intOf t).toNat)
  case atStart => exact ⟨0, by omega, rfl, h3, hO⟩
  case round =>
    obtain ⟨k, hk, rfl, hB, hO1⟩ := hrel
    by_cases hlt : k < 8
    · have k1 : (k : Int) < 8 := by omega
      go_wp2_with (fail)
      refine (cZ _).mono ?_
      rintro e w4 ⟨rfl, b4⟩
      have hB2 := (hB.after b4).set k (.string zero128)
      have hO2 := hO1.after b4
      have c0 := hO2.cell (i := k) (by rw [filS_len]; exact hlt)
      have f0 := hO2.frozen k
      have hO3 := hO2.set k (.string zero128)
      rw [filS_set k hlt] at hO3
      clear hO1 hO2 hB b4
      go_wp2_with (fail)
      go_roundw
      case rel => exact ⟨k + 1, by omega, by go_num, hB2, hO3⟩
      case measure => simp [intOf]; omega
    · have hk8 : k = 8 := by omega
      rw [hk8, filS_all] at hO1
      have k8 : ¬ ((k : Int) < 8) := by omega
      clear hO h3 hk8 hlt hk
      go_wp2_with (fail)
      go_loopw [12] (fun t wr => ∃ (k : Nat) (V : Int → List ByteArray) (l : List ByteArray), k ≤ 60 ∧ k ≤ ls.length ∧ t = .int .i64 (k : Int) ∧ MBx w1 wr x m g bp cap (List.replicate 8 zero128) V ∧ Lasts V l k ∧ Own wr x 9 (.slice (some ⟨x, 0, none⟩) 8 8) (l.map .string)) (fun t _ => 60 - (intOf t).toNat)
      case atStart => exact ⟨0, noV, _, by omega, by omega, rfl, hB, Lasts.start 0, hO1⟩
      case round =>
        clear hB hO1
        obtain ⟨k, V, l, hk60, hkl, rfl, hB, hLa, hO1⟩ := hrel
        by_cases hlt : k < ls.length ∧ k < 60
        · obtain ⟨hl1, hl2⟩ := hlt
          have k1 : (k : Int) < (ls.length : Int) := by omega
          have k2 : (k : Int) < 60 := by omega
          obtain ⟨_, _, e0, vcell⟩ := (hR1.below hB.b).nums
          obtain ⟨rfl, rfl⟩ : va = _ ∧ vcap = _ := by simpa using e0
          obtain ⟨cb, co, rfl, hcb, hc⟩ := vcell k hl1
          have hci := hIn k hl1
          generalize ls.getD k 0 = c at *
          obtain ⟨cc, hcc⟩ : ∃ r, pickC c % 1048576 = r := ⟨_, rfl⟩
          have hccb : cc < 1048576 := by rw [← hcc]; exact Nat.mod_lt _ (by omega)
          have cp : ∀ W, Calls Try.prog 13 #[.int .i64 c, .int .i64 1048576] W fun e w' => e = .returned (.int .i64 (cc : Int)) ∧ W = w' := fun W => by
            have := pick_any c 1048576 hci (by omega) (by omega) W
            rw [hcc] at this; exact this
          obtain ⟨d, hd⟩ : ∃ d, cc % 10 = d := ⟨_, rfl⟩
          obtain ⟨q, hq⟩ : ∃ q, cc / 10 = q := ⟨_, rfl⟩
          have m1 : (cc : Int) % 10 = (d : Int) := by omega
          have m2 : ((cc : Int)).tmod 10 = (d : Int) := by rw [Int.tmod_eq_emod_of_nonneg (by omega)]; exact m1
          have m3 : (cc : Int) / 10 = (q : Int) := by omega
          have m4 : ((cc : Int)).tdiv 10 = (q : Int) := by rw [Int.tdiv_eq_ediv_of_nonneg (by omega)]; exact m3
          have m5 : IntKind.i64.wrap (q : Int) = (q : Int) := wrap_in (by omega) (by omega)
          have hd10 : d < 10 := by omega
          have cS : ∀ W, Calls Try.prog 15 #[.int .i64 (q : Int)] W (GivesS W (sec q)) := fun W => sector_any q (in64_iff.2 (by omega)) W
          have hs8 := sec_size q
          have hl8 := hLa.1
          clear hcc hccb hd hq hci hIn vcell hcb
          generalize sec q = sq at *
          by_cases hbad : d = 0 ∨ d = 9
          · obtain ⟨n, hn, hnn⟩ : ∃ n : Int, IntKind.i64.wrap ((d : Int) - 1) = n ∧ (n = -1 ∨ n = 8) := by
              rcases hbad with rfl | rfl
              · exact ⟨-1, wrap_in (by omega) (by omega), .inl rfl⟩
              · exact ⟨8, wrap_in (by omega) (by omega), .inr rfl⟩
            have hno : hasN (List.replicate 8 zero128) n = false := by rcases hnn with rfl | rfl <;> rfl
            have hrel2 := Lib.hid hLa
            clear hbad
            rcases hnn with rfl | rfl
            all_goals
              go_wp2_with (fail)
              refine (cp _).mono ?_
              rintro e w4 ⟨rfl, rfl⟩
              go_wp2_with (fail)
              refine (cS _).mono ?_
              rintro e w5 ⟨rfl, b5⟩
              have hB2 := hB.after b5
              have hO2 := hO1.after b5
              have cW := mb_bad hB2.mb _ sq (.inl hno)
              clear hO1 hB b5 hc
              go_wp2_with (fail)
              refine cW.mono ?_
              rintro e w6 ⟨rfl, rfl⟩
              go_wp2_with (fail)
              go_roundw
              case rel => exact ⟨k + 1, V, l, by omega, by omega, by go_num, hB2, hrel2.out.mono (by omega), hO2⟩
              case measure => simp [intOf]; omega
          · obtain ⟨i, hi⟩ : ∃ i, d = i + 1 := ⟨d - 1, by omega⟩
            have hi8 : i < 8 := by omega
            have hn : IntKind.i64.wrap ((d : Int) - 1) = (i : Int) := by rw [show (d : Int) - 1 = (i : Int) by omega]; exact wrap_in (by omega) (by omega)
            have i1 : (0 : Int) ≤ (i : Int) := by omega
            have i2 : (i : Int) < 8 := by omega
            have hLa2 := Lib.hid (hLa.write i hi8 sq)
            have hV := Lib.hid (hLa.2.2 i)
            clear hbad hi hLa
            go_wp2_with (fail)
            refine (cp _).mono ?_
            rintro e w4 ⟨rfl, rfl⟩
            go_wp2_with (fail)
            refine (cS _).mono ?_
            rintro e w5 ⟨rfl, b5⟩
            have hB2 := hB.after b5
            have hO2 := hO1.after b5
            have cW := mbx_write hB2 i (by rw [hRep]; exact hi8) sq hs8 (by have := hV.out; omega)
            clear hO1 hB b5 hc
            go_wp2_with (fail)
            refine cW.mono ?_
            rintro e w6 ⟨rfl, hB3, hx3⟩
            have hO3 := hO2.sameBlock hx3
            clear hO2 hB2 cW hx3
            go_wp2_with (fail)
            refine (cS _).mono ?_
            rintro e w7 ⟨rfl, b7⟩
            have hO4 := hO3.after b7
            have hB4 := (hB3.after b7).set i (.string sq)
            have c0 := hO4.cell (i := i) (by rw [List.length_map, hl8]; exact hi8)
            have f0 := hO4.frozen i
            have hO5 := hO4.set i (.string sq)
            rw [← List.map_set] at hO5
            clear hO3 hO4 hB3 b7
            go_wp2_with (fail)
            go_roundw
            case rel => exact ⟨k + 1, _, _, by omega, by omega, by go_num, hB4, hLa2.out, hO5⟩
            case measure => simp [intOf]; omega
        · have hle8 := hLa.1
          have hLaH := Lib.hid hLa
          have hcond : (k : Int) < (ls.length : Int) → ¬ ((k : Int) < 60) := by omega
          have hB0 := hB
          have hpk := fun W => pick_any a1 8 (in64_iff.2 n1) (by omega) (by omega) W
          obtain ⟨r, hr⟩ : ∃ r, pickC a1 % 8 = r := ⟨_, rfl⟩
          rw [hr] at hpk
          have cpA : ∀ W, Calls Try.prog 13 #[.int .i64 a1, .int .i64 8] W fun e w' => e = .returned (.int .i64 (r : Int)) ∧ W = w' := fun W => hpk W
          clear hpk hr hIn hLa
          have body : ∀ (K : Prop), True := fun _ => trivial
          clear body
          have rest : ∀ wq, wq = wr → MBx w1 wq x m g bp cap (List.replicate 8 zero128) V := fun wq e => e ▸ hB0
          clear rest
          have hcd : ((k : Int) < (ls.length : Int) ∧ ¬ ((k : Int) < 60)) ∨ ¬ ((k : Int) < (ls.length : Int)) := by omega
          clear hcond hlt
          by_cases hsz : s.size = 128
          · have t1 : ((s.size : Int) != 128) = false := by rw [hsz]; rfl
            have t2 : ((s.size : Int) == 128) = true := by rw [hsz]; rfl
            clear hsz
            rcases hcd with ⟨kx, k60⟩ | kx
            · go_wp2_with (fail)
              go_loopw [16] (fun t wr => ∃ k : Nat, k ≤ 2 ∧ t = .int .i64 (k : Int) ∧ MBx w1 wr x m g bp cap (List.replicate 8 zero128) V ∧ Own wr x 9 (.slice (some ⟨x, 0, none⟩) 8 8) (l.map .string)) (fun t _ => 2 - (intOf t).toNat)
              case atStart => exact ⟨0, by omega, rfl, hB, hO1⟩
              case round =>
                clear hB hO1 hB0
                obtain ⟨y, hy, rfl, hB, hO1⟩ := hrel
                by_cases hlt : y < 2
                · have y1 : (y : Int) < 2 := by omega
                  go_wp2_with (fail)
                  go_loopw [17] (fun t wr => ∃ k : Nat, k ≤ 8 ∧ t = .int .i64 (k : Int) ∧ MBx w1 wr x m g bp cap (List.replicate 8 zero128) V ∧ Own wr x 9 (.slice (some ⟨x, 0, none⟩) 8 8) (l.map .string)) (fun t _ => 8 - (intOf t).toNat)
                  case atStart => exact ⟨0, by omega, rfl, hB, hO1⟩
                  case round =>
                    clear hB hO1
                    obtain ⟨i, hi, rfl, hB, hO1⟩ := hrel
                    by_cases hi8 : i < 8
                    · have i1 : (i : Int) < 8 := by omega
                      have cR := mb_read hB.mb i (by rw [hRep]; exact hi8) (by have := hLaH.out.2.2 i; omega)
                      rw [List.getElem_replicate, hLaH.out.2.1 i hi8] at cR
                      have hcell : (l.map Value.string).getD i .nilFunc = .string (l.getD i zero128) := by
                        rw [List.getD_eq_getElem?_getD, List.getElem?_map, List.getElem?_eq_getElem (by omega), List.getD_eq_getElem?_getD, List.getElem?_eq_getElem (by omega)]; rfl
                      go_wp2_with (fail)
                      refine cR.mono ?_
                      rintro e w7 ⟨rfl, b7⟩
                      have hB2 := hB.after b7
                      have hO2 := hO1.after b7
                      have c0 := hO2.cell (i := i) (by rw [List.length_map, hle8]; exact hi8)
                      rw [hcell] at c0
                      generalize l.getD i zero128 = t0 at *
                      clear hB hO1 b7 cR hcell
                      go_wp2_with (fail)
                      go_roundw
                      case rel => exact ⟨i + 1, by omega, by go_num, hB2, hO2⟩
                      case measure => simp [intOf]; omega
                    · obtain rfl : i = 8 := by omega
                      go_wp2_with (fail)
                      go_roundw
                      case rel => exact ⟨y + 1, by omega, by go_num, hB, hO1⟩
                      case measure => simp [intOf]; omega
                · obtain rfl : y = 2 := by omega
                  have hfin := Lib.hid (hb1H.out.trans (hB.b.mono hb1H.out.size))
                  go_wp2_with (fail)
                  go_ret
                  exact ⟨rfl, hfin.out⟩
            · go_wp2_with (fail)
              go_loopw [16] (fun t wr => ∃ k : Nat, k ≤ 2 ∧ t = .int .i64 (k : Int) ∧ MBx w1 wr x m g bp cap (List.replicate 8 zero128) V ∧ Own wr x 9 (.slice (some ⟨x, 0, none⟩) 8 8) (l.map .string)) (fun t _ => 2 - (intOf t).toNat)
              case atStart => exact ⟨0, by omega, rfl, hB, hO1⟩
              case round =>
                clear hB hO1 hB0
                obtain ⟨y, hy, rfl, hB, hO1⟩ := hrel
                by_cases hlt : y < 2
                · have y1 : (y : Int) < 2 := by omega
                  go_wp2_with (fail)
                  go_loopw [17] (fun t wr => ∃ k : Nat, k ≤ 8 ∧ t = .int .i64 (k : Int) ∧ MBx w1 wr x m g bp cap (List.replicate 8 zero128) V ∧ Own wr x 9 (.slice (some ⟨x, 0, none⟩) 8 8) (l.map .string)) (fun t _ => 8 - (intOf t).toNat)
                  case atStart => exact ⟨0, by omega, rfl, hB, hO1⟩
                  case round =>
                    clear hB hO1
                    obtain ⟨i, hi, rfl, hB, hO1⟩ := hrel
                    by_cases hi8 : i < 8
                    · have i1 : (i : Int) < 8 := by omega
                      have cR := mb_read hB.mb i (by rw [hRep]; exact hi8) (by have := hLaH.out.2.2 i; omega)
                      rw [List.getElem_replicate, hLaH.out.2.1 i hi8] at cR
                      have hcell : (l.map Value.string).getD i .nilFunc = .string (l.getD i zero128) := by
                        rw [List.getD_eq_getElem?_getD, List.getElem?_map, List.getElem?_eq_getElem (by omega), List.getD_eq_getElem?_getD, List.getElem?_eq_getElem (by omega)]; rfl
                      go_wp2_with (fail)
                      refine cR.mono ?_
                      rintro e w7 ⟨rfl, b7⟩
                      have hB2 := hB.after b7
                      have hO2 := hO1.after b7
                      have c0 := hO2.cell (i := i) (by rw [List.length_map, hle8]; exact hi8)
                      rw [hcell] at c0
                      generalize l.getD i zero128 = t0 at *
                      clear hB hO1 b7 cR hcell
                      go_wp2_with (fail)
                      go_roundw
                      case rel => exact ⟨i + 1, by omega, by go_num, hB2, hO2⟩
                      case measure => simp [intOf]; omega
                    · obtain rfl : i = 8 := by omega
                      go_wp2_with (fail)
                      go_roundw
                      case rel => exact ⟨y + 1, by omega, by go_num, hB, hO1⟩
                      case measure => simp [intOf]; omega
                · obtain rfl : y = 2 := by omega
                  have hfin := Lib.hid (hb1H.out.trans (hB.b.mono hb1H.out.size))
                  go_wp2_with (fail)
                  go_ret
                  exact ⟨rfl, hfin.out⟩
          · have t1 : ((s.size : Int) != 128) = true := by rw [bne_iff_ne]; omega
            have t2 : ((s.size : Int) == 128) = false := by rw [beq_eq_false_iff_ne]; omega
            have cW := mb_bad hB.mb (r : Int) s (.inr hsz)
            clear hsz
            rcases hcd with ⟨kx, k60⟩ | kx
            · go_wp2_with (fail)
              refine (cpA _).mono ?_
              rintro e w4 ⟨rfl, rfl⟩
              go_wp2_with (fail)
              refine cW.mono ?_
              rintro e w5 ⟨rfl, rfl⟩
              go_wp2_with (fail)
              go_loopw [16] (fun t wr => ∃ k : Nat, k ≤ 2 ∧ t = .int .i64 (k : Int) ∧ MBx w1 wr x m g bp cap (List.replicate 8 zero128) V ∧ Own wr x 9 (.slice (some ⟨x, 0, none⟩) 8 8) (l.map .string)) (fun t _ => 2 - (intOf t).toNat)
              case atStart => exact ⟨0, by omega, rfl, hB, hO1⟩
              case round =>
                clear hB hO1 hB0
                obtain ⟨y, hy, rfl, hB, hO1⟩ := hrel
                by_cases hlt : y < 2
                · have y1 : (y : Int) < 2 := by omega
                  go_wp2_with (fail)
                  go_loopw [17] (fun t wr => ∃ k : Nat, k ≤ 8 ∧ t = .int .i64 (k : Int) ∧ MBx w1 wr x m g bp cap (List.replicate 8 zero128) V ∧ Own wr x 9 (.slice (some ⟨x, 0, none⟩) 8 8) (l.map .string)) (fun t _ => 8 - (intOf t).toNat)
                  case atStart => exact ⟨0, by omega, rfl, hB, hO1⟩
                  case round =>
                    clear hB hO1
                    obtain ⟨i, hi, rfl, hB, hO1⟩ := hrel
                    by_cases hi8 : i < 8
                    · have i1 : (i : Int) < 8 := by omega
                      have cR := mb_read hB.mb i (by rw [hRep]; exact hi8) (by have := hLaH.out.2.2 i; omega)
                      rw [List.getElem_replicate, hLaH.out.2.1 i hi8] at cR
                      have hcell : (l.map Value.string).getD i .nilFunc = .string (l.getD i zero128) := by
                        rw [List.getD_eq_getElem?_getD, List.getElem?_map, List.getElem?_eq_getElem (by omega), List.getD_eq_getElem?_getD, List.getElem?_eq_getElem (by omega)]; rfl
                      go_wp2_with (fail)
                      refine cR.mono ?_
                      rintro e w7 ⟨rfl, b7⟩
                      have hB2 := hB.after b7
                      have hO2 := hO1.after b7
                      have c0 := hO2.cell (i := i) (by rw [List.length_map, hle8]; exact hi8)
                      rw [hcell] at c0
                      generalize l.getD i zero128 = t0 at *
                      clear hB hO1 b7 cR hcell
                      go_wp2_with (fail)
                      go_roundw
                      case rel => exact ⟨i + 1, by omega, by go_num, hB2, hO2⟩
                      case measure => simp [intOf]; omega
                    · obtain rfl : i = 8 := by omega
                      go_wp2_with (fail)
                      go_roundw
                      case rel => exact ⟨y + 1, by omega, by go_num, hB, hO1⟩
                      case measure => simp [intOf]; omega
                · obtain rfl : y = 2 := by omega
                  have hfin := Lib.hid (hb1H.out.trans (hB.b.mono hb1H.out.size))
                  go_wp2_with (fail)
                  go_ret
                  exact ⟨rfl, hfin.out⟩
            · go_wp2_with (fail)
              refine (cpA _).mono ?_
              rintro e w4 ⟨rfl, rfl⟩
              go_wp2_with (fail)
              refine cW.mono ?_
              rintro e w5 ⟨rfl, rfl⟩
              go_wp2_with (fail)
              go_loopw [16] (fun t wr => ∃ k : Nat, k ≤ 2 ∧ t = .int .i64 (k : Int) ∧ MBx w1 wr x m g bp cap (List.replicate 8 zero128) V ∧ Own wr x 9 (.slice (some ⟨x, 0, none⟩) 8 8) (l.map .string)) (fun t _ => 2 - (intOf t).toNat)
              case atStart => exact ⟨0, by omega, rfl, hB, hO1⟩
              case round =>
                clear hB hO1 hB0
                obtain ⟨y, hy, rfl, hB, hO1⟩ := hrel
                by_cases hlt : y < 2
                · have y1 : (y : Int) < 2 := by omega
                  go_wp2_with (fail)
                  go_loopw [17] (fun t wr => ∃ k : Nat, k ≤ 8 ∧ t = .int .i64 (k : Int) ∧ MBx w1 wr x m g bp cap (List.replicate 8 zero128) V ∧ Own wr x 9 (.slice (some ⟨x, 0, none⟩) 8 8) (l.map .string)) (fun t _ => 8 - (intOf t).toNat)
                  case atStart => exact ⟨0, by omega, rfl, hB, hO1⟩
                  case round =>
                    clear hB hO1
                    obtain ⟨i, hi, rfl, hB, hO1⟩ := hrel
                    by_cases hi8 : i < 8
                    · have i1 : (i : Int) < 8 := by omega
                      have cR := mb_read hB.mb i (by rw [hRep]; exact hi8) (by have := hLaH.out.2.2 i; omega)
                      rw [List.getElem_replicate, hLaH.out.2.1 i hi8] at cR
                      have hcell : (l.map Value.string).getD i .nilFunc = .string (l.getD i zero128) := by
                        rw [List.getD_eq_getElem?_getD, List.getElem?_map, List.getElem?_eq_getElem (by omega), List.getD_eq_getElem?_getD, List.getElem?_eq_getElem (by omega)]; rfl
                      go_wp2_with (fail)
                      refine cR.mono ?_
                      rintro e w7 ⟨rfl, b7⟩
                      have hB2 := hB.after b7
                      have hO2 := hO1.after b7
                      have c0 := hO2.cell (i := i) (by rw [List.length_map, hle8]; exact hi8)
                      rw [hcell] at c0
                      generalize l.getD i zero128 = t0 at *
                      clear hB hO1 b7 cR hcell
                      go_wp2_with (fail)
                      go_roundw
                      case rel => exact ⟨i + 1, by omega, by go_num, hB2, hO2⟩
                      case measure => simp [intOf]; omega
                    · obtain rfl : i = 8 := by omega
                      go_wp2_with (fail)
                      go_roundw
                      case rel => exact ⟨y + 1, by omega, by go_num, hB, hO1⟩
                      case measure => simp [intOf]; omega
                · obtain rfl : y = 2 := by omega
                  have hfin := Lib.hid (hb1H.out.trans (hB.b.mono hb1H.out.size))
                  go_wp2_with (fail)
                  go_ret
                  exact ⟨rfl, hfin.out⟩
end Go.Proofs.Ytbokglifgacodaa

