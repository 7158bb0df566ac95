import Derived.Test.YtjgafpkpoppcbaaGreatDoorLgf
import Derived.Test.YtjgafpkpoppcbaaGreatDoorLbase
import Derived.Test.YtjgafpkpoppcbaaGreatDoorTie
import Derived.MakeChecks
import Derived.LaidHandle
import Derived.Stop.LaidErr
import Derived.LaidMore
import Derived.LaidOnce
import Derived.ProofKit
namespace Go.Proofs.YtjgafpkpoppcbaaGreatDoor
open Go.RowKit
theorem gN0 : Tryz.prog.globalNamed "stave/gf.powers" = some 0 := by kernel_rfl
theorem gN1 : Tryz.prog.globalNamed "stave/gf.logs" = some 1 := by kernel_rfl
theorem gT0 : (Tryz.prog.globals[0]?).map (·.type) = some 160 := by kernel_rfl
theorem gT1 : (Tryz.prog.globals[1]?).map (·.type) = some 160 := by kernel_rfl
theorem gcE : Tryz.prog.cellsOf 5 = 1 := by kernel_rfl
theorem gcT : Tryz.prog.cellsOf 160 = 255 := by kernel_rfl
def pws : List Int := (List.range 255).map fun n => ((Gf.pw n : Nat) : Int)
def lgs : List Int := (List.range 255).map fun n => ((Gf.lg (n + 1) : Nat) : Int)
theorem pws_data : (Rows.laid_stave_gf_powers : DataW Unit) = Lib.tabData .u8 pws := by kernel_rfl
theorem lgs_data : (Rows.laid_stave_gf_logs : DataW Unit) = Lib.tabData .u8 lgs := by kernel_rfl
theorem tabs_of_laid {W : World} (h : laidMetH Tryz.prog [("stave/gf.powers", Rows.laid_stave_gf_powers), ("stave/gf.logs", Rows.laid_stave_gf_logs)] W) : Tabs W := by
  rw [MakeChecks.laidMetH_plain _ _ _ (by kernel_rfl), pws_data, lgs_data] at h
  have h1 := Lib.tabIs_of_head gN0 gT0 Tryz.underlying160 Tryz.underlying5 gcE gcT h
  have h2 := Lib.tabIs_of_head gN1 gT1 Tryz.underlying160 Tryz.underlying5 gcE gcT (laidMet.tail h)
  refine ⟨fun i hi => ?_, fun i hi => ?_⟩
  · have := h1.cell gN0 i (by simp [pws]; omega)
    rw [this]
    simp [pws, List.getD_eq_getElem?_getD, hi]
  · have := h2.cell gN1 i (by simp [lgs]; omega)
    rw [this]
    simp [lgs, List.getD_eq_getElem?_getD, hi]
theorem laidMet_bits {P : Program} {w : World} {l : List (String × DataW Unit)} (fuel M : Nat) (h : (DataW.laidRun P w fuel (l.map (·.1))).map (·.1) = some l)
    (hr : (DataW.laidRun P w fuel (l.map (·.1))).map (fun x => nodupBits M x.2 0 && laidRowsB P w x.2) = some true) : laidMet P l w := by
  cases hx : DataW.laidRun P w fuel (l.map (·.1)) with
  | none => simp [hx] at h
  | some x =>
    obtain ⟨l', ps⟩ := x
    simp only [hx, Option.map_some, Option.some.injEq] at h hr
    subst h
    simp only [Bool.and_eq_true] at hr
    exact laidMet_of_run fuel hx (decide_eq_true (nodupBits_sound hr.1).1) hr.2
theorem door_met (os : Os) (args : Array Value) : laidMetH Tryz.prog [("stave/gf.powers", Rows.laid_stave_gf_powers), ("stave/gf.logs", Rows.laid_stave_gf_logs)] ((World.doorLaid Tryz.prog 400 os).forCall (fun _ _ => 0) ⟨#[], args, []⟩).memory := by
  rw [MakeChecks.laidMetH_plain _ _ _ (by kernel_rfl)]
  exact laidMet_bits 8 256 (by kernel_rfl) (by kernel_rfl)
end Go.Proofs.YtjgafpkpoppcbaaGreatDoor
