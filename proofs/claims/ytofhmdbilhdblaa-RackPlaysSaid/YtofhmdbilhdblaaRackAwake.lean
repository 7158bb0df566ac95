/- rack: chapter 9's example. -/
import Derived.Test.YtofhmdbilhdblaaRackRe
namespace Go.Proofs.Ytofhmdbilhdblaa
open Go.RowKit
set_option linter.unusedVariables false
set_option linter.unusedSimpArgs false
set_option maxRecDepth 100000

/-- A rack of blank members. -/
def blankM (s : Nat) : Nat → Mst := fun _ => ⟨false, List.replicate s zero128, noV⟩
set_option maxHeartbeats 4000000 in
theorem awake9_any (w : World) : Calls Try.prog 37 #[] w (Ends w true) := by
  have cN : Calls Try.prog 38 #[.int .i64 2, .int .i64 4] w fun e w' => ∃ S k, e = .returned (.tuple #[.pointer (some ⟨k, 0, none⟩), .int .i64 0]) ∧ RS w S w' k 2 (blankM 4) false 0 0 := rs_new 2 4 w (by omega) (by omega) (by omega) (by omega)
  have c65 : ∀ W, Calls Try.prog 11 #[.int .i64 65] W (GivesS W (sec 65)) := fun W => sector_any 65 (in64_iff.2 (by omega)) W
  have hs := sec_size 65
  have hRep : (List.replicate 4 zero128).length = 4 := by simp
  generalize sec 65 = s at *
  go_enter Try.func37, Try.ntmps37
  go_wp2_with (fail)
  refine cN.mono ?_
  rintro e w1 ⟨S, k, rfl, h1⟩
  clear cN
  go_wp2_with (fail)
  refine (rs_arm h1 2 (by omega)).mono ?_
  rintro e w2 ⟨S2, rfl, _, h2⟩
  clear h1
  go_wp2_with (fail)
  refine (c65 _).mono ?_
  rintro e w3 ⟨rfl, b3⟩
  have h3 := h2.after b3
  have cW := rs_write h3 0 (by omega) (by omega) (by omega) (by omega) rfl 0 (by rw [hRep]; omega) s hs (by simp [noV])
  clear h2 b3 h3
  go_wp2_with (fail)
  refine cW.mono ?_
  rintro e w4 ⟨S4, rfl, _, h4⟩
  clear cW
  go_wp2_with (fail)
  refine (c65 _).mono ?_
  rintro e w5 ⟨rfl, b5⟩
  have h5 : RS w S4 w5 k 2 _ false 1 1 := h4.after b5
  have cW := rs_writel h5 1 (by omega) (by omega) 0 s
  clear h4 b5 h5
  go_wp2_with (fail)
  refine cW.mono ?_
  rintro e w6 ⟨S6, rfl, _, h6⟩
  clear cW
  go_wp2_with (fail)
  refine (rs_reado h6 0 (by omega) 0).mono ?_
  rintro e w' ⟨rfl, rfl⟩
  go_wp2_with (fail)
  refine (rs_off h6).mono ?_
  rintro e w' ⟨rfl, rfl⟩
  obtain ⟨M6, hM6⟩ : ∃ M6 : Nat → Mst, upd (blankM 4) 0 ⟨false, List.replicate 4 zero128, updZ noV (((0 : Nat) : Int)) (noV (((0 : Nat) : Int)) ++ [s])⟩ = M6 := ⟨_, rfl⟩
  have h6' : RS w S6 w6 k 2 M6 true 2 0 := by rw [← hM6]; exact h6
  have b7 : Below w6.heap.size w6 ((w6.alloc (.cells #[.int .i64 1] 3)).alloc (.cells #[.slice (some ⟨w6.heap.size, 0, none⟩) 1 1] 31)) := ((Below.refl _ _).alloc (Nat.le_refl _) _).alloc (by simp) _
  have h7 := h6'.after b7
  have hch : ChR ((w6.alloc (.cells #[.int .i64 1] 3)).alloc (.cells #[.slice (some ⟨w6.heap.size, 0, none⟩) 1 1] 31)) (.slice (some ⟨w6.heap.size + 1, 0, none⟩) 1 1) [(.slice (some ⟨w6.heap.size, 0, none⟩) 1 1, [1])] := by
    refine ⟨.inr ⟨w6.heap.size + 1, 0, 1, rfl, by simp, fun i hi => ?_⟩, fun x hx => ?_⟩
    · obtain rfl : i = 0 := by simpa using hi
      have e : (w6.alloc (.cells #[.int .i64 1] 3)).heap.size = w6.heap.size + 1 := by simp
      rw [← e, World.cell?_alloc_mark]; rfl
    · rw [List.mem_singleton.1 hx]
      refine ⟨.inr ⟨w6.heap.size, 0, 1, rfl, by simp; omega, fun i hi => ?_⟩, fun c hc => ?_, by simp⟩
      · obtain rfl : i = 0 := by simpa using hi
        rw [cell_of_heap (Below.heap_alloc _ _ w6.heap.size (by simp)), World.cell?_alloc_mark]; rfl
      · rw [List.mem_singleton.1 hc]; exact in64_iff.2 (by omega)
  have hca : ChA (.slice (some ⟨w6.heap.size + 1, 0, none⟩) 1 1) [(.slice (some ⟨w6.heap.size, 0, none⟩) 1 1, [1])] S6 := by
    refine ⟨fun _ b hb hs => ?_, fun x hx _ b hb hs => ?_⟩
    · have := h6'.lt b hs
      have e : w6.heap.size + 1 = b := by simpa [Value.ownBlock] using hb
      omega
    · rw [List.mem_singleton.1 hx] at hb
      have := h6'.lt b hs
      have e : w6.heap.size = b := by simpa [Value.ownBlock] using hb
      omega
  have hvv : ∀ i, i < 2 → ∀ z, ((M6 i).V z).length ≤ 1000000000000 := fun i _ z => by
    rw [← hM6]; unfold upd blankM updZ noV
    by_cases e : i = 0
    · rw [if_pos e]; show (if z = _ then _ else _ : List ByteArray).length ≤ _; split <;> simp
    · rw [if_neg e]; simp
  have cR := rs_restart h7 _ _ hch hca (by simp) hvv
  have hM70 : crashM (M6 0) (chs [(Value.slice (some ⟨w6.heap.size, 0, none⟩) 1 1, [1])] 0) = ⟨false, (List.replicate 4 zero128).set 0 s, noV⟩ := by
    rw [← hM6, upd_same]
    unfold crashM chs
    have e := crash_one (List.replicate 4 zero128) 0 (noV (((0 : Nat) : Int)) ++ [s]) (by rw [hRep]; omega) 1
    show Mst.mk false (crash _ _ [1]) noV = _
    rw [e]
    have e2 : pickC 1 % ((noV (((0 : Nat) : Int)) ++ [s]).length + 1) = 1 := by simp [noV, pickC]
    rw [e2, if_neg (by omega)]; rfl
  obtain ⟨M7, hM7⟩ : ∃ M7, (fun i => crashM (M6 i) (chs [(Value.slice (some ⟨w6.heap.size, 0, none⟩) 1 1, [1])] i)) = M7 := ⟨_, rfl⟩
  have h70 : M7 0 = ⟨false, (List.replicate 4 zero128).set 0 s, noV⟩ := by rw [← hM7]; exact hM70
  rw [hM7] at cR
  clear hM70 hM7 hvv hca hch h7 b7 h6' hM6 h6
  go_wp2_with (fail)
  refine cR.mono ?_
  rintro e w8 ⟨rfl, _, h8⟩
  clear cR
  have hl4 : ((List.replicate 4 zero128).set 0 s).length = 4 := by simp
  have cr := rs_read h8 0 (by omega) h70 0 (by rw [hl4]; omega) (by simp [noV])
  have e8 : lastOf (noV (((0 : Nat) : Int))) (((List.replicate 4 zero128).set 0 s)[0]'(by rw [hl4]; omega)) = s := by
    rw [show noV (((0 : Nat) : Int)) = [] from rfl, lastOf_nil]; simp
  rw [e8] at cr
  go_wp2_with (fail)
  refine cr.mono ?_
  rintro e w9 ⟨rfl, b9⟩
  have h9 := h8.after b9
  clear h8 b9 cr e8
  go_wp2_with (fail)
  refine (rs_readn h9 2 rfl 0).mono ?_
  rintro e w' ⟨rfl, rfl⟩
  go_wp2_with (fail)
  refine (c65 _).mono ?_
  rintro e w10 ⟨rfl, b10⟩
  have h10 := h9.after b10
  clear h9 b10
  go_wp2_with (fail)
  refine (rs_acts h10).mono ?_
  rintro e w' ⟨rfl, rfl⟩
  go_wp2_with (fail)
  refine (rs_slots h10).mono ?_
  rintro e w' ⟨rfl, rfl⟩
  have cs := rs_sectors h10 (by omega)
  rw [h70] at cs
  replace cs : Calls Try.prog 71 #[.pointer (some ⟨k, 0, none⟩)] w10 fun e w' => e = .returned (.int .i64 4) ∧ w10 = w' := by
    refine cs.mono fun e w' ⟨he, hw⟩ => ⟨?_, hw⟩
    rw [he]
    show Ending.returned (.int .i64 ((((List.replicate 4 zero128).set 0 s).length : Nat) : Int)) = _
    rw [hl4]; rfl
  have hfin := Lib.hid h10.b
  clear h10
  go_wp2_with (fail)
  refine cs.mono ?_
  rintro e w' ⟨rfl, rfl⟩
  go_wp2_with (fail)
  go_ret
  exact ⟨rfl, hfin.out⟩
end Go.Proofs.Ytofhmdbilhdblaa

