/- Commands that came in as arguments. -/
import Derived.Test.YtjbekphjhmlloaaDoorCmdLaw3
import Derived.Test.YtjbekphjhmlloaaDoorAggArgs
import Derived.Test.YtjbekphjhmlloaaDoorTie
import Derived.MakeChecks
import Derived.LaidHandle
import Derived.Stop.LaidErr
import Derived.LaidMore
import Derived.LaidOnce
import Derived.ProofKit
namespace Go.Proofs.YtjbekphjhmlloaaDoor
open Go.RowKit Go.ChangeShapes Go.WideShapes
set_option linter.unusedVariables false
set_option linter.unusedSimpArgs false

section
variable {H : Type} {enc : TypeId × Value → H} {w : World} {base b0 : Nat} {spare : Nat → Bool} {held : Bool} {r : Reach}
def CmdD {H : Type} (x : Cmd) : DataW H := .agg [.lit (.int .i64 x.op), .lit (.string x.n.data.toList), .lit (.string x.o.data.toList), .lit (.int .i64 x.a), .lit (.int .i64 x.c), .lit (.string x.d.data.toList)]
def In64 (a : Int) : Prop := -9223372036854775808 ≤ a ∧ a ≤ 9223372036854775807
theorem cmd_flat : flatF Tryd.prog (Tryd.prog.fieldsOf 23) = true := by kernel_rfl
theorem cmd_cells : Tryd.prog.cellsOf 23 = (Tryd.prog.fieldsOf 23).size := by kernel_rfl
theorem cmd_und : Tryd.prog.underlying 23 = some (.struct (Tryd.prog.fieldsOf 23)) := by kernel_rfl
theorem open_cmd {v : Value} {d : DataW H} {p : List MemPlace} (hv : Value.okWide Tryd.prog w r b0 23 v) (h : DataW.Trod enc Tryd.prog w base spare held 23 v d p) :
    ∃ x : Cmd, v = x.v ∧ d = CmdD x ∧ In64 x.op ∧ In64 x.a ∧ In64 x.c := by
  obtain ⟨cs, ys, n, rfl, hsz, rfl, hyl, hg⟩ := open_fields cmd_und cmd_flat cmd_cells hv h
  have g0 := hg 0 _ rfl
  have g1 := hg 1 _ rfl
  have g2 := hg 2 _ rfl
  have g3 := hg 3 _ rfl
  have g4 := hg 4 _ rfl
  have g5 := hg 5 _ rfl
  obtain ⟨c0, y0, e0, k0, t0⟩ := g0
  obtain ⟨c1, y1, e1, k1, t1⟩ := g1
  obtain ⟨c2, y2, e2, k2, t2⟩ := g2
  obtain ⟨c3, y3, e3, k3, t3⟩ := g3
  obtain ⟨c4, y4, e4, k4, t4⟩ := g4
  obtain ⟨c5, y5, e5, k5, t5⟩ := g5
  obtain ⟨a0, rfl, d0, r0⟩ := field_int Tryd.underlying3 t0
  obtain ⟨a1, rfl, d1⟩ := field_string Tryd.underlying9 t1
  obtain ⟨a2, rfl, d2⟩ := field_string Tryd.underlying9 t2
  obtain ⟨a3, rfl, d3, r3⟩ := field_int Tryd.underlying3 t3
  obtain ⟨a4, rfl, d4, r4⟩ := field_int Tryd.underlying3 t4
  obtain ⟨a5, rfl, d5⟩ := field_string Tryd.underlying9 t5
  refine ⟨⟨a0, a1, a2, a3, a4, a5⟩, ?_, ?_, r0, r3, r4⟩
  · obtain ⟨l⟩ := cs
    match l, (show l.length = 6 from hsz) with
    | [q0, q1, q2, q3, q4, q5], _ =>
      simp at e0 e1 e2 e3 e4 e5
      subst e0 e1 e2 e3 e4 e5
      rfl
  · match ys, (show ys.length = 6 from hyl) with
    | [q0, q1, q2, q3, q4, q5], _ =>
      simp at k0 k1 k2 k3 k4 k5
      subst k0 k1 k2 k3 k4 k5
      simp [CmdD, d0, d1, d2, d3, d4, d5]
end
theorem sized_cmd {H : Type} {ts : List TypeId} {ds : List (DataW H)} (h : (DataW.weightsEach Tryd.prog ts ds).all (· ≤ reachBytes) = true) {j : Nat} {x : Cmd} (ht : ts[j]? = some 23) (hd : ds[j]? = some (CmdD x)) :
    x.n.size ≤ 140737488351232 ∧ x.o.size ≤ 140737488351232 ∧ x.d.size ≤ 140737488351232 := by
  have h1 := sized_field h (i := 1) ht hd cmd_und rfl rfl
  have h2 := sized_field h (i := 2) ht hd cmd_und rfl rfl
  have h5 := sized_field h (i := 5) ht hd cmd_und rfl rfl
  simp at h1 h2 h5
  exact ⟨h1, h2, h5⟩
theorem gN0 : Tryd.prog.globalNamed "stave/command.fields" = some 0 := by kernel_rfl
theorem gT0 : (Tryd.prog.globals[0]?).map (·.type) = some 43 := by kernel_rfl
def fldRows : List (List Int) := (List.range 10).map fun i => (rowOf i).map fun n => ((n : Nat) : Int)
theorem flds_data : (Rows.laid_stave_command_fields : DataW Unit) = .agg (fldRows.map fun r => Lib.tabData .i64 r) := by kernel_rfl
theorem flds_of_laid {W : World} (h : laidMetH Tryd.prog [("stave/command.fields", Rows.laid_stave_command_fields)] W) : Flds W := by
  rw [MakeChecks.laidMetH_plain _ _ _ (by kernel_rfl), flds_data] at h
  obtain ⟨ps, ⟨g', t', cs, fuel, p, q, hg', ht', hvar, hd, _, _⟩, _⟩ := h
  obtain rfl := Option.some.inj (gN0.symm.trans hg')
  obtain rfl := Option.some.inj (gT0.symm.trans ht')
  have hc := cells_of_rows Tryd.underlying43 Tryd.underlying42 Tryd.underlying3 (by kernel_rfl) (by kernel_rfl) (by decide) hd
  have key : ∀ i j : Nat, i < 10 → j < 3 → W.cell? ⟨0, i * 3 + j, none⟩ = some (.int .i64 (((rowOf i).getD j 0 : Nat) : Int)) := by
    intro i j hi hj
    rw [World.var?_cell gN0 hvar]
    have := hc i j (by simpa [fldRows] using hi) hj
    rw [Array.getElem?_toList] at this
    rw [this]
    obtain ⟨x, y, z, hr, _⟩ := row_form i
    simp only [fldRows, List.getElem_map, List.getElem_range, hr]
    rcases (by omega : j = 0 ∨ j = 1 ∨ j = 2) with rfl | rfl | rfl <;> rfl
  exact ⟨key, lt_of_cell (key 0 0 (by decide) (by decide))⟩
end Go.Proofs.YtjbekphjhmlloaaDoor
