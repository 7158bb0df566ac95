/- Structs that came in as arguments: each field one cell. -/
import Derived.Test.YtlbjfigdocbffaaRows
import Derived.WalkKit
import Derived.ChangeSame
import Derived.WideShapes
import Derived.SizedLaws
import Derived.ChangeArms
import Derived.Lib.SmallJoins
import Derived.Lib.LaidTab
namespace Go.Proofs.Ytlbjfigdocbffaa
open Go.RowKit Go.ChangeShapes Go.WideShapes
set_option linter.unusedVariables false
set_option linter.unusedSimpArgs false

section
variable {H : Type} {enc : TypeId × Value → H} {P : Program} {w : World} {base b0 : Nat} {spare : Nat → Bool} {held : Bool} {r : Reach}
/-- Each field lies in the cell of its number. -/
def flatF (P : Program) (fs : Array Field) : Bool := (List.range fs.size).all fun i => match fs[i]? with | some f => f.offset == i && P.cellsOf f.type == 1 | none => true
theorem flatF_at {fs : Array Field} (h : flatF P fs = true) {i : Nat} {f : Field} (hf : fs[i]? = some f) : f.offset = i ∧ P.cellsOf f.type = 1 := by
  have hi : i < fs.size := (Array.getElem?_eq_some_iff.1 hf).1
  have := List.all_eq_true.1 h i (List.mem_range.2 hi)
  rw [hf] at this
  simpa using this
theorem trod_fields {t : TypeId} {fs : Array Field} {fuel : Nat} {cs : List Value} {x : DataW H × List MemPlace} (hs : P.underlying t = some (.struct fs)) (ho : flatF P fs = true) (hC : P.cellsOf t = fs.size) (h : DataW.trod enc P w base spare held fuel t cs = some x) :
    ∃ (ys : List (DataW H × List MemPlace)) (n : Nat), x = (.agg (ys.map (·.1)), ys.flatMap (·.2)) ∧ cs.length = fs.size ∧ ys.length = fs.size ∧
      ∀ (i : Nat) (f : Field), fs[i]? = some f → ∃ c y, cs[i]? = some c ∧ ys[i]? = some y ∧ DataW.trod enc P w base spare held n f.type [c] = some y := by
  obtain ⟨ys, n, _, hx, hl, hn, hg⟩ := DataW.trod_struct hs h
  rw [hC] at hl
  refine ⟨ys, n, hx, hl, hn, fun i f hf => ?_⟩
  obtain ⟨h1, h2⟩ := flatF_at ho hf
  have hi : i < fs.size := (Array.getElem?_eq_some_iff.1 hf).1
  have hi1 : i < cs.length := by omega
  have hi2 : i < ys.length := by omega
  refine ⟨cs[i], ys[i], List.getElem?_eq_getElem hi1, List.getElem?_eq_getElem hi2, ?_⟩
  have := hg i f hf
  rw [h1, h2, List.drop_eq_getElem_cons hi1, List.take_succ_cons, List.take_zero, List.getElem?_eq_getElem hi2] at this
  exact this
theorem open_fields {t : TypeId} {fs : Array Field} {v : Value} {d : DataW H} {p : List MemPlace} (hs : P.underlying t = some (.struct fs)) (ho : flatF P fs = true) (hC : P.cellsOf t = fs.size) (hv : Value.okWide P w r b0 t v) (h : DataW.Trod enc P w base spare held t v d p) :
    ∃ (cs : Array Value) (ys : List (DataW H × List MemPlace)) (n : Nat), v = .agg cs ∧ cs.size = fs.size ∧ d = .agg (ys.map (·.1)) ∧ ys.length = fs.size ∧
      ∀ (i : Nat) (f : Field), fs[i]? = some f → ∃ c y, cs[i]? = some c ∧ ys[i]? = some y ∧ DataW.trod enc P w base spare held n f.type [c] = some y := by
  obtain ⟨cs, rfl, hsz⟩ := okWide_struct hs hv
  obtain ⟨fuel, hf⟩ := h
  obtain ⟨ys, n, hx, h1, h2, h3⟩ := trod_fields hs ho hC hf
  simp only [Prod.mk.injEq] at hx
  refine ⟨cs, ys, n, rfl, by simpa [Value.cells] using h1, hx.1, h2, fun i f hf => ?_⟩
  obtain ⟨c, y, e1, e2, e3⟩ := h3 i f hf
  exact ⟨c, y, by simpa [Value.cells] using e1, e2, e3⟩
theorem field_int {ti : TypeId} {n : Nat} {c : Value} {y : DataW H × List MemPlace} (hi : P.underlying ti = some (.int .i64)) (h : DataW.trod enc P w base spare held n ti [c] = some y) : ∃ a : Int, c = .int .i64 a ∧ y.1 = .lit (.int .i64 a) ∧ -9223372036854775808 ≤ a ∧ a ≤ 9223372036854775807 := by
  obtain ⟨a, e1, e2, e3⟩ := DataW.trod_int hi h
  refine ⟨a, by simpa using e1, by rw [e2], ?_⟩
  simp [Lit.wf, IntKind.min, IntKind.max, IntKind.signed, IntKind.bits] at e3; omega
theorem field_string {ti : TypeId} {n : Nat} {c : Value} {y : DataW H × List MemPlace} (hi : P.underlying ti = some .string) (h : DataW.trod enc P w base spare held n ti [c] = some y) : ∃ s : ByteArray, c = .string s ∧ y.1 = .lit (.string s.data.toList) := by
  obtain ⟨s, e1, e2, e3⟩ := DataW.trod_string hi h
  exact ⟨s, by simpa using e1, by rw [e2]⟩
end
/-- An array of rows of integers that reads as the rows holds them, cell for cell. -/
theorem cells_of_rows {H : Type} {enc : TypeId × Value → H} {P : Program} {w : World} {base : Nat} {sp : Nat → Bool} {held : Bool} {fuel : Nat} {t e u : TypeId} {n m : Nat} {k : IntKind} {cs : List Value} {rows : List (List Int)} {p : List MemPlace}
    (ht : P.underlying t = some (.array n e)) (he : P.underlying e = some (.array m u)) (hu : P.underlying u = some (.int k)) (hcu : P.cellsOf u = 1) (hce : P.cellsOf e = m) (hm : ∀ r ∈ rows, r.length = m)
    (h : DataW.trod enc P w base sp held fuel t cs = some (.agg (rows.map fun r => Lib.tabData k r), p)) : ∀ (i j : Nat) (hi : i < rows.length), j < m → cs[i * m + j]? = some (.int k (rows[i].getD j 0)) := by
  cases fuel with
  | zero => simp [DataW.trod] at h
  | succ fuel =>
    simp only [DataW.trod, ht, hce] at h
    split at h
    · rename_i hl
      obtain ⟨xs, hm2, hx⟩ := Option.map_eq_some_iff.1 h
      have hxs : xs.map (·.1) = rows.map fun r => (Lib.tabData k r : DataW H) := by
        have := congrArg Prod.fst hx
        simpa using this
      have hxl : xs.length = n := by simpa using Lib.mapM_length hm2
      have hrl : rows.length = n := by
        have := congrArg List.length hxs
        simp at this
        omega
      intro i j hi hj
      obtain ⟨b, hb, hf⟩ := Lib.mapM_at hm2 i i (by rw [List.getElem?_range (by omega)])
      have h2 : (xs.map (·.1))[i]? = some b.1 := by simp [hb]
      rw [hxs] at h2
      have h3 : b.1 = Lib.tabData k rows[i] := by rw [List.getElem?_map, List.getElem?_eq_getElem hi] at h2; exact (Option.some.inj h2).symm
      obtain ⟨b1, b2⟩ := b
      simp only at h3
      subst h3
      have h4 := Lib.cells_of_tab he hu hcu hce hf
      have h5 := congrArg (·[j]?) h4
      simp only [List.getElem?_take, List.getElem?_drop, List.getElem?_map, if_pos hj] at h5
      rw [h5, List.getElem?_eq_getElem (by rw [hm _ (List.getElem_mem hi)]; exact hj)]
      simp [List.getD_eq_getElem?_getD, hm _ (List.getElem_mem hi), hj]
    · cases h
section
variable {H : Type} {P : Program} {ts : List TypeId} {ds : List (DataW H)}
theorem weights_at {fs : List TypeId} : ∀ {ys : List (DataW H)} {i : Nat} {t : TypeId} {bytes : List UInt8}, fs[i]? = some t → ys[i]? = some (.lit (.string bytes)) → bytes.length ∈ DataW.weightsEach P fs ys := by
  induction fs with
  | nil => intro ys i t bytes h; simp at h
  | cons f fs ih =>
    intro ys i t bytes h1 h2
    cases ys with
    | nil => simp at h2
    | cons y ys =>
      simp only [DataW.weightsEach, List.mem_append]
      cases i with
      | zero =>
        simp at h1 h2
        subst h2
        left; simp [DataW.weights]
      | succ i =>
        right
        exact ih (by simpa using h1) (by simpa using h2)
/-- How great a text in a struct is. -/
theorem sized_field (h : (DataW.weightsEach P ts ds).all (· ≤ reachBytes) = true) {j i : Nat} {t : TypeId} {fs : Array Field} {f : Field} {ys : List (DataW H)} {bytes : List UInt8} (ht : ts[j]? = some t) (hd : ds[j]? = some (.agg ys)) (hu : P.underlying t = some (.struct fs))
    (hf : fs[i]? = some f) (hy : ys[i]? = some (.lit (.string bytes))) : bytes.length ≤ 140737488351232 := by
  have := List.all_eq_true.1 h _ (DataW.weights_mem_each ht hd bytes.length (by
    simp only [DataW.weights, hu]
    exact weights_at (i := i) (t := f.type) (by simp [hf]) hy))
  have h2 : bytes.length ≤ reachBytes := of_decide_eq_true this
  simpa [reachBytes] using h2
end
end Go.Proofs.Ytlbjfigdocbffaa
