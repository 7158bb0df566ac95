/- dir: Put, the program's and the document's own. -/
import Derived.Test.YtfmgoamgcjipkaaDirRef3
namespace Go.Proofs.Ytfmgoamgcjipkaa
open Go.RowKit
set_option linter.unusedVariables false
set_option linter.unusedSimpArgs false
open Dr

def SaysS (w : World) (s : ByteArray) (e : Ending) (w' : World) : Prop := e = .returned (.string s) ∧ Below w.heap.size w w'
theorem dnumber_any (n width : Int) (w : World) : Calls Try.prog 35 #[.int .i64 n, .int .i64 width] w (SaysS w (numL n width)) := by
  have hn := fun W => num_any n width W
  generalize numL n width = s at *
  generalize numE n width = m at *
  go_enter Try.func35, Try.ntmps35
  go_wp2_with (fail)
  refine (hn _).mono ?_
  rintro e w1 ⟨rfl, hb⟩
  go_wp2_with (fail)
  go_ret
  exact ⟨rfl, hb⟩
theorem dfill_any (s : ByteArray) (long : Int) (w : World) (hs : s.size ≤ 140737488351232) : Calls Try.prog 36 #[.string s, .int .i64 long] w (SaysS w (fillL s long)) := by
  have hn := fun W => fill_any s long W hs
  generalize fillL s long = t at *
  generalize fillE s long = m at *
  go_enter Try.func36, Try.ntmps36
  go_wp2_with (fail)
  refine (hn _).mono ?_
  rintro e w1 ⟨rfl, hb⟩
  go_wp2_with (fail)
  go_ret
  exact ⟨rfl, hb⟩
theorem rnum_says (n width : Int) (w : World) : Calls Try.prog 37 #[.int .i64 n, .int .i64 width] w (SaysS w (numL n width)) := by
  have hn := fun W => rnum_any n width W
  generalize numL n width = s at *
  generalize numE n width = m at *
  go_enter Try.func37, Try.ntmps37
  go_wp2_with (fail)
  refine (hn _).mono ?_
  rintro e w1 ⟨rfl, hb⟩
  go_wp2_with (fail)
  go_ret
  exact ⟨rfl, hb⟩
theorem box3 {w wb : World} {T : TypeId} {a b c : Value} (h : w.alloc (.cells #[a, b, c] T) = wb) {Z : Type} {f : Z → World} (hD : ∀ z, Below wb.heap.size wb (f z)) :
    (∀ z, (f z).cell? ⟨w.heap.size, 0, none⟩ = some a) ∧ (∀ z, (f z).cell? ⟨w.heap.size, 1, none⟩ = some b) ∧ (∀ z, (f z).cell? ⟨w.heap.size, 2, none⟩ = some c) := by
  subst h
  have hz := clsCell hD
  refine ⟨?_, ?_, ?_⟩ <;> (intro z; rw [hz z _ _ (by simp)]; simp)
theorem numL1_size (n : Int) : (numL n 1).size ≤ 1 := by have := numL_size' n 1 (by decide); simpa using this
theorem numL2_size (n : Int) : (numL n 2).size ≤ 2 := by have := numL_size' n 2 (by decide); simpa using this
theorem put_fin {blocks : Int} {l : List Vol} (h : rightB blocks l = true) : fillL (headS blocks l.length ++ encs l) 120 = putL blocks l := by
  have hz := body_size h l.length
  rw [List.take_length] at hz
  have := (fill_good default (headS blocks l.length ++ encs l) 120 (by decide) (by omega)).1
  rw [putL, if_pos h, putS, ← this]; rfl
set_option maxRecDepth 100000 in
set_option maxHeartbeats 8000000 in
theorem dput_any (b : Int) (v : Value) (l : List Vol) (w : World) (hR : ReadsE volE w v l) (hs : VolsOk l) : Calls Try.prog 16 #[.int .i64 b, v] w (Tells2 w (putL b l) (putE b l)) := by
  have cr := fun W (hW : Below w.heap.size w W) => dright_any b v l W (hR.below hW) hs
  obtain ⟨a, cap, rfl, cl⟩ := items3 hR
  clear hR
  cases hr : rightB b l with
  | false =>
    rw [hr] at cr
    have hz : Hid (putL b l = ⟨#[]⟩ ∧ putE b l = 180) := Lib.hid (by rw [putL, putE, hr]; exact ⟨rfl, rfl⟩)
    clear hr
    go_enter Try.func16, Try.ntmps16
    go_wp2_with (fail)
    refine (cr _ (Below.refl _ _)).mono ?_
    rintro e w1 ⟨rfl, hb⟩
    go_wp2_with (fail)
    go_ret2
    exact ⟨by rw [hz.out.1, hz.out.2]; rfl, hb⟩
  | true =>
    rw [hr] at cr
    have hz : Hid (putE b l = 0) := Lib.hid (by rw [putE, hr]; rfl)
    have hfin := Lib.hid (put_fin hr)
    have hbs := body_size hr
    obtain ⟨⟨_, _, hl8⟩, hvs, _⟩ := (rightB_iff b l).1 hr
    have hvn : ∀ k, k < l.length → (at_ l k).n.size ≤ 6 := fun k hk => by
      rw [at_get hk]; exact (volB_lim (by omega) (hvs _ (List.getElem_mem hk))).1
    clear hr hvs
    have n1 := fun W => dnumber_any b 1 W
    have n2 := fun W => dnumber_any (l.length : Int) 1 W
    have z1 := numL1_size b
    have z2 := numL1_size (l.length : Int)
    have hh : Hid (headS b l.length = ⟨#[80, 79, 76, 49]⟩ ++ numL b 1 ++ numL (l.length : Int) 1) := Lib.hid rfl
    have hh0 : Hid (headS b l.length ++ encs (l.take 0) = headS b l.length) := Lib.hid (by rw [List.take_zero, encs, Rm.app_nil])
    have z3 : ((⟨#[80, 79, 76, 49]⟩ : ByteArray) ++ numL b 1).size ≤ 5 := by rw [ByteArray.size_append]; show 4 + _ ≤ 5; omega
    have z4 : (⟨#[80, 79, 76, 49]⟩ : ByteArray).size = 4 := rfl
    have cf9 : ∀ W, Calls Try.prog 36 #[.string (headS b l.length ++ encs l), .int .i64 120] W (SaysS W (fillL (headS b l.length ++ encs l) 120)) := fun W => dfill_any _ 120 W (by have := hbs l.length; rw [List.take_length] at this; omega)
    have hstep : ∀ k, k < l.length → encs (l.take (k + 1)) = encs (l.take k) ++ encV (at_ l k) := fun k hk => encs_succ l k hk
    generalize numL b 1 = x1 at *
    generalize numL (l.length : Int) 1 = x2 at *
    go_enter Try.func16, Try.ntmps16
    go_wp2_with (fail)
    refine (cr _ (Below.refl _ _)).mono ?_
    rintro e w1 ⟨rfl, hb1⟩
    go_wp2_with (fail)
    refine (n1 _).mono ?_
    rintro e w2 ⟨rfl, hb2⟩
    have B2 := below_c hb1 hb2
    go_wp2_with (fail)
    refine (n2 _).mono ?_
    rintro e w3 ⟨rfl, hb3⟩
    have B3 := below_c B2 hb3
    clear hb1 hb2 hb3 B2 cr n1 n2
    go_wp2_with (fail)
    rw [← hh.out]
    go_loopw [6, 22] (fun s t wr => ∃ k : Nat, k ≤ l.length ∧ t = .int .i64 (k : Int) ∧ s = .string (headS b l.length ++ encs (l.take k)) ∧ Below w.heap.size w wr) (fun _ t _ => l.length - (intOf t).toNat)
    case atStart => exact ⟨0, by omega, rfl, by rw [hh0.out], B3⟩
    case round =>
      obtain ⟨k, hk, rfl, rfl, hB⟩ := hrel
      rename World => wr
      have hBs := hB.size
      by_cases hlt : k < l.length
      · have y1 : (k : Int) < (l.length : Int) := by omega
        obtain ⟨cb, co, rfl, hcb, hcl⟩ := cl k hlt
        obtain ⟨d0, d1, d2⟩ := hcl wr hB
        have hvk := hvn k hlt
        have c1 := fun n wd W => dnumber_any n wd W
        have c2 := fun W => dfill_any (at_ l k).n 6 W (by omega)
        have s1 := numL1_size ((at_ l k).n.size : Int)
        have s2 := fillL_size6 (at_ l k).n
        have s3 := numL2_size (at_ l k).s
        have s4 := numL1_size (at_ l k).r
        have hS := hbs k
        have HE : Hid (headS b l.length ++ encs (l.take (k + 1)) = headS b l.length ++ encs (l.take k) ++ (numL ((at_ l k).n.size : Int) 1 ++ fillL (at_ l k).n 6 ++ numL (at_ l k).s 2 ++ numL (at_ l k).r 1)) := Lib.hid (by
          rw [hstep k hlt, encV]; simp only [Rm.app_assoc])
        generalize headS b l.length ++ encs (l.take k) = S at *
        generalize (at_ l k).n = nm at *
        generalize (at_ l k).s = sz at *
        generalize (at_ l k).r = rt at *
        have s5 : (numL (nm.size : Int) 1 ++ fillL nm 6).size ≤ 7 := by rw [ByteArray.size_append]; omega
        have s6 : (numL (nm.size : Int) 1 ++ fillL nm 6 ++ numL sz 2).size ≤ 9 := by rw [ByteArray.size_append]; omega
        have s7 : (numL (nm.size : Int) 1 ++ fillL nm 6 ++ numL sz 2 ++ numL rt 1).size ≤ 10 := by rw [ByteArray.size_append]; omega
        have hbb := hB.alloc hBs (.cells #[.string nm, .int .i64 sz, .int .i64 rt] 24)
        clear hcl cf9 hvn hbs hstep
        go_wp2_with (fail)
        generalize hwb : wr.alloc (.cells #[.string nm, .int .i64 sz, .int .i64 rt] 24) = wb at *
        refine wp_region_cls (Below wb.heap.size wb) (by kernel_rfl) (by kernel_rfl) (Below.refl _ _).drew ?_
        intro Z f hne hD hE
        obtain ⟨b0, b1, b2⟩ := box3 hwb hD
        clear hwb d0 d1 d2
        repeat (go_big_quiet_step (first | (go_at_call 35; exact toQB hD hE _ (c1 _ _ _)) | (go_at_call 36; exact toQB hD hE _ (c2 _))))
        refine wpQuiet_nil ?_
        intro _ hw'
        obtain ⟨zq, hw''⟩ := hw'
        subst hw''
        have hB3 := hbb.trans ((hD zq).mono hbb.size)
        clear b0 b1 b2
        go_wp2_with (fail)
        go_roundw
        case rel => exact ⟨k + 1, by omega, by go_num, by rw [HE.out], hB3⟩
        case measure => simp [intOf]; omega
      · have y1 : ¬ ((k : Int) < (l.length : Int)) := by omega
        obtain rfl : k = l.length := by omega
        rw [List.take_length]
        clear hstep hbs
        go_wp2_with (fail)
        refine (cf9 _).mono ?_
        rintro e w4 ⟨rfl, hb4⟩
        go_wp2_with (fail)
        go_ret2
        exact ⟨by rw [hz.out, ← hfin.out]; rfl, below_c hB hb4⟩
set_option maxRecDepth 100000 in
set_option maxHeartbeats 8000000 in
theorem rput_any (b : Int) (v : Value) (l : List Vol) (w : World) (hR : ReadsE volE w v l) (hs : VolsOk l) : Calls Try.prog 17 #[.int .i64 b, v] w (Tells2 w (putL b l) (putE b l)) := by
  have cr := fun W (hW : Below w.heap.size w W) => rright_any b v l W (hR.below hW) hs
  obtain ⟨a, cap, rfl, cl⟩ := items3 hR
  clear hR
  cases hr : rightB b l with
  | false =>
    rw [hr] at cr
    have hz : Hid (putL b l = ⟨#[]⟩ ∧ putE b l = 180) := Lib.hid (by rw [putL, putE, hr]; exact ⟨rfl, rfl⟩)
    clear hr
    go_enter Try.func17, Try.ntmps17
    go_wp2_with (fail)
    refine (cr _ (Below.refl _ _)).mono ?_
    rintro e w1 ⟨rfl, hb⟩
    go_wp2_with (fail)
    go_ret2
    exact ⟨by rw [hz.out.1, hz.out.2]; rfl, hb⟩
  | true =>
    rw [hr] at cr
    have hz : Hid (putE b l = 0) := Lib.hid (by rw [putE, hr]; rfl)
    have hfin := Lib.hid (put_fin hr)
    have hbs := body_size hr
    obtain ⟨⟨_, _, hl8⟩, hvs, _⟩ := (rightB_iff b l).1 hr
    have hvn : ∀ k, k < l.length → (at_ l k).n.size ≤ 6 := fun k hk => by
      rw [at_get hk]; exact (volB_lim (by omega) (hvs _ (List.getElem_mem hk))).1
    clear hr hvs
    have n1 := fun W => rnum_says b 1 W
    have n2 := fun W => rnum_says (l.length : Int) 1 W
    have z1 := numL1_size b
    have z2 := numL1_size (l.length : Int)
    have hh : Hid (headS b l.length = ⟨#[80, 79, 76, 49]⟩ ++ numL b 1 ++ numL (l.length : Int) 1) := Lib.hid rfl
    have hh0 : Hid (headS b l.length ++ encs (l.take 0) = headS b l.length) := Lib.hid (by rw [List.take_zero, encs, Rm.app_nil])
    have z3 : ((⟨#[80, 79, 76, 49]⟩ : ByteArray) ++ numL b 1).size ≤ 5 := by rw [ByteArray.size_append]; show 4 + _ ≤ 5; omega
    have z4 : (⟨#[80, 79, 76, 49]⟩ : ByteArray).size = 4 := rfl
    have cf9 : ∀ W, Calls Try.prog 38 #[.string (headS b l.length ++ encs l), .int .i64 120] W (Tells2 W (fillL (headS b l.length ++ encs l) 120) (fillE (headS b l.length ++ encs l) 120)) := fun W => rfill_any _ 120 W (by have := hbs l.length; rw [List.take_length] at this; omega)
    have hstep : ∀ k, k < l.length → encs (l.take (k + 1)) = encs (l.take k) ++ encV (at_ l k) := fun k hk => encs_succ l k hk
    generalize numL b 1 = x1 at *
    generalize numL (l.length : Int) 1 = x2 at *
    go_enter Try.func17, Try.ntmps17
    go_wp2_with (fail)
    refine (cr _ (Below.refl _ _)).mono ?_
    rintro e w1 ⟨rfl, hb1⟩
    go_wp2_with (fail)
    refine (n1 _).mono ?_
    rintro e w2 ⟨rfl, hb2⟩
    have B2 := below_c hb1 hb2
    go_wp2_with (fail)
    refine (n2 _).mono ?_
    rintro e w3 ⟨rfl, hb3⟩
    have B3 := below_c B2 hb3
    clear hb1 hb2 hb3 B2 cr n1 n2
    go_wp2_with (fail)
    rw [← hh.out]
    go_loopw [7, 8] (fun s t wr => ∃ k : Nat, k ≤ l.length ∧ t = .int .i64 (k : Int) ∧ s = .string (headS b l.length ++ encs (l.take k)) ∧ Below w.heap.size w wr) (fun _ t _ => l.length - (intOf t).toNat)
    case atStart => exact ⟨0, by omega, rfl, by rw [hh0.out], B3⟩
    case round =>
      obtain ⟨k, hk, rfl, rfl, hB⟩ := hrel
      rename World => wr
      have hBs := hB.size
      by_cases hlt : k < l.length
      · have y1 : (k : Int) < (l.length : Int) := by omega
        obtain ⟨cb, co, rfl, hcb, hcl⟩ := cl k hlt
        obtain ⟨d0, d1, d2⟩ := hcl wr hB
        have hvk := hvn k hlt
        have c1 := fun n wd W => rnum_says n wd W
        have c2 := fun W => rfill_any (at_ l k).n 6 W (by omega)
        have s1 := numL1_size ((at_ l k).n.size : Int)
        have s2 := fillL_size6 (at_ l k).n
        have s3 := numL2_size (at_ l k).s
        have s4 := numL1_size (at_ l k).r
        have hS := hbs k
        have HE : Hid (headS b l.length ++ encs (l.take (k + 1)) = headS b l.length ++ encs (l.take k) ++ (numL ((at_ l k).n.size : Int) 1 ++ fillL (at_ l k).n 6 ++ numL (at_ l k).s 2 ++ numL (at_ l k).r 1)) := Lib.hid (by
          rw [hstep k hlt, encV]; simp only [Rm.app_assoc])
        generalize headS b l.length ++ encs (l.take k) = S at *
        generalize (at_ l k).n = nm at *
        generalize (at_ l k).s = sz at *
        generalize (at_ l k).r = rt at *
        have s5 : (numL (nm.size : Int) 1 ++ fillL nm 6).size ≤ 7 := by rw [ByteArray.size_append]; omega
        have s6 : (numL (nm.size : Int) 1 ++ fillL nm 6 ++ numL sz 2).size ≤ 9 := by rw [ByteArray.size_append]; omega
        have s7 : (numL (nm.size : Int) 1 ++ fillL nm 6 ++ numL sz 2 ++ numL rt 1).size ≤ 10 := by rw [ByteArray.size_append]; omega
        have v5 : (S ++ numL (nm.size : Int) 1).size ≤ 87 := by rw [ByteArray.size_append]; omega
        have v6 : (S ++ numL (nm.size : Int) 1 ++ fillL nm 6).size ≤ 93 := by rw [ByteArray.size_append]; omega
        have v7 : (S ++ numL (nm.size : Int) 1 ++ fillL nm 6 ++ numL sz 2).size ≤ 95 := by rw [ByteArray.size_append]; omega
        have HE2 : Hid (headS b l.length ++ encs (l.take (k + 1)) = S ++ numL (nm.size : Int) 1 ++ fillL nm 6 ++ numL sz 2 ++ numL rt 1) := Lib.hid (by rw [HE.out]; simp only [Rm.app_assoc])
        clear cf9 hvn hbs hstep s5 s6 s7
        go_wp2_with (fail)
        refine (c2 _).mono ?_
        rintro e w4 ⟨rfl, hb4⟩
        have hB4 := below_c hB hb4
        obtain ⟨d0, d1, d2⟩ := hcl w4 hB4
        have hB4s := hB4.size
        go_wp2_with (fail)
        refine wp_region_cls (Below w4.heap.size w4) (by kernel_rfl) (by kernel_rfl) (Below.refl _ _).drew ?_
        intro Z f hne hD hE
        have b0 : ∀ z, (f z).cell? ⟨cb, co + k * 3, none⟩ = some (.string nm) := fun z => (hcl _ (below_c hB4 (hD z))).1
        have b1 : ∀ z, (f z).cell? ⟨cb, co + k * 3 + 1, none⟩ = some (.int .i64 sz) := fun z => (hcl _ (below_c hB4 (hD z))).2.1
        have b2 : ∀ z, (f z).cell? ⟨cb, co + k * 3 + 2, none⟩ = some (.int .i64 rt) := fun z => (hcl _ (below_c hB4 (hD z))).2.2
        clear d0 d1 d2
        repeat (go_big_quiet_step ((go_at_call 37; exact toQB hD hE _ (c1 _ _ _))))
        refine wpQuiet_nil ?_
        intro _ hw'
        obtain ⟨zq, hw''⟩ := hw'
        subst hw''
        have hB3 := below_c hB4 (hD zq)
        clear b0 b1 b2
        go_wp2_with (fail)
        go_roundw
        case rel => exact ⟨k + 1, by omega, by go_num, by rw [HE2.out], hB3⟩
        case measure => simp [intOf]; omega
      · have y1 : ¬ ((k : Int) < (l.length : Int)) := by omega
        obtain rfl : k = l.length := by omega
        rw [List.take_length]
        clear hstep hbs
        go_wp2_with (fail)
        refine (cf9 _).mono ?_
        rintro e w4 ⟨rfl, hb4⟩
        go_wp2_with (fail)
        go_ret2
        exact ⟨by rw [hz.out, ← hfin.out]; rfl, below_c hB hb4⟩
end Go.Proofs.Ytfmgoamgcjipkaa
