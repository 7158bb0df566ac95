/- The chapter's examples answer as the document says. -/
import Derived.Test.YtmdenbgambjlcaaDoorGfRLine
import Derived.Lib.SlBytesConst
import Derived.Deep.RegionWith
import Derived.Deep.DrawnRows
namespace Go.Proofs.YtmdenbgambjlcaaDoor
open Go.RowKit
set_option linter.unusedVariables false
set_option linter.unusedSimpArgs false
attribute [local go_sem ↓] Go.wp_at_zero Go.wp_at_succ

theorem muladd_ab (w : World) (ht : Tabs w) :
    Calls Tryd.prog 26 #[.string ⟨#[97, 98]⟩, .int .u8 1, .string ⟨#[97, 98]⟩] w fun e w' => e = .returned (.string ⟨#[0, 0]⟩) ∧ Below w.heap.size w w' := by
  refine (muladd_any ⟨#[97, 98]⟩ ⟨#[97, 98]⟩ 1 w ht (by omega) (by omega) (by decide) (by decide)).mono ?_
  rintro e w' ⟨rfl, hb⟩
  exact ⟨by rw [show mulAdd ⟨#[97, 98]⟩ (Int.toNat 1) ⟨#[97, 98]⟩ = ⟨#[0, 0]⟩ by decide +kernel], hb⟩

theorem conv00_at (W W' : World) (h : ∀ j, W'.cell? ⟨W.heap.size, j, none⟩ = (W.alloc (.cells #[.int .u8 0, .int .u8 0] 5)).cell? ⟨W.heap.size, j, none⟩) : (convert 38 9 (.slice (some ⟨W.heap.size, 0, none⟩) 2 2)).run Tryd.prog W' = .ok (.string ⟨#[0, 0]⟩) W' :=
  run_convert_bytes_back (P := Tryd.prog) W' 38 9 5 ⟨W.heap.size, 0, none⟩ 2 [0, 0] Tryd.underlying38 Tryd.underlying5 Tryd.underlying9 (fun j hj => by
    have hj' : j < 2 := hj
    have ea : (⟨W.heap.size, 0, none⟩ : Addr).add j = ⟨W.heap.size, j, none⟩ := by simp [Addr.add]; intro h; exact h.symm
    rw [ea, h, World.cell?_alloc_mark]
    match j, hj' with
    | 0, _ => rfl
    | 1, _ => rfl)
set_option maxRecDepth 100000 in
set_option maxHeartbeats 2000000 in
theorem awake_any (w : World) (ht : Tabs w) :
    Calls Tryd.prog 13 #[] w fun e w' => e = .returned (.bool true) ∧ Below w.heap.size w w' := by
  have f1 : Gf.gi 2 = 142 := by decide +kernel
  have f2 : Gf.lg 3 = 25 := by decide +kernel
  have f3 : Gf.gm 2 128 = 29 := by decide +kernel
  have f4 : Gf.pw 8 = 29 := by decide +kernel
  have f5 : Gf.pw 0 = 1 := by decide +kernel
  have f6 : Gf.pw 254 = 142 := by decide +kernel
  have cv := fun W : World => conv00_at W (W.alloc (.cells #[.int .u8 0, .int .u8 0] 5)) (fun _ => rfl)
  have cvd := fun W : World => conv00_at W (W.alloc (.cells #[.int .u8 0, .int .u8 0] 5)).drew (fun _ => rfl)
  go_enter Tryd.func13, Tryd.ntmps13
  go_wp2_with (first
    | (go_at_call 16; refine (inv_some 2 _ ht (by omega) (by omega)).mono ?_; rintro e w' ⟨rfl, rfl⟩)
    | (go_at_call 22; refine (glog_some 3 _ ht (by omega) (by omega)).mono ?_; rintro e w' ⟨rfl, rfl⟩)
    | (go_at_call 14; refine (div_zero 1 0 _ rfl).mono ?_; rintro e w' ⟨rfl, rfl⟩))
  go_region_with
    (first
      | (go_at_call 20; refine (mul_any 2 128 _ (by first | exact ht.drew | exact (ht.alloc _).drew | assumption | exact Tabs.drew (by assumption) | exact (Tabs.alloc (by assumption) _)) (by omega) (by omega) (by omega) (by omega)).mono ?_; rintro e w' ⟨rfl, rfl⟩)
      | (go_at_call 24; refine (exp_any _ _ (by first | exact ht.drew | exact (ht.alloc _).drew | assumption | exact Tabs.drew (by assumption) | exact (Tabs.alloc (by assumption) _)) (by omega) (by omega)).mono ?_; rintro e w' ⟨rfl, rfl⟩)
      | (go_at_call 26; refine (muladd_ab _ (by first | exact ht.drew | exact (ht.alloc _).drew | assumption | exact Tabs.drew (by assumption) | exact (Tabs.alloc (by assumption) _))).mono ?_; rintro e w' ⟨rfl, hbel⟩; have ht2 := Tabs.below (by first | exact ht.drew | exact (ht.alloc _).drew | assumption | exact Tabs.drew (by assumption) | exact (Tabs.alloc (by assumption) _)) hbel (Tabs.two (by first | exact ht.drew | exact (ht.alloc _).drew | assumption | exact Tabs.drew (by assumption) | exact (Tabs.alloc (by assumption) _))); try have cvw := conv00_at w w' (fun j => hbel.cell (p := ⟨w.heap.size, j, none⟩) (by simp)))
      | (go_at_call 18; refine (add_any 5 3 _ (by omega) (by omega) (by omega) (by omega)).mono ?_; rintro e w' ⟨rfl, rfl⟩))
  all_goals go_wp2
  all_goals go_ret
  · exact ⟨rfl, (((Below.refl _ w).drew.trans hbel).alloc hbel.size _)⟩
  · exact ⟨rfl, ((((Below.refl _ w).alloc (Nat.le_refl _) _).drew).trans (hbel.mono (by simp)))⟩
  · exact ⟨rfl, ((((Below.refl _ w).alloc (Nat.le_refl _) _).drew).trans (hbel.mono (by simp)))⟩
end Go.Proofs.YtmdenbgambjlcaaDoor
