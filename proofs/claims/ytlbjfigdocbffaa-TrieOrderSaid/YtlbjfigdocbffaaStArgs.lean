/- Rows of structs that came in as arguments, whatever lies in them. -/
import Derived.Test.YtlbjfigdocbffaaAggArgs
import Derived.Test.YtlbjfigdocbffaaArgs
import Derived.Test.YtlbjfigdocbffaaSk
import Derived.Deep.Slices
namespace Go.Proofs.Ytlbjfigdocbffaa
open Go.RowKit Go.ChangeShapes Go.WideShapes Go.Deep
set_option linter.unusedVariables false
set_option linter.unusedSimpArgs false

/-- What a row of structs reads as. -/
def StD {α H : Type} (Good : α → DataW H → Prop) (d : DataW H) (l : List α) : Prop :=
  d = .nil ∧ l = [] ∨ ∃ ds spare, d = .slice ds spare ∧ ds.length = l.length ∧ ∀ i (hi : i < l.length) (hj : i < ds.length), Good l[i] ds[i]
section
variable {H : Type} {enc : TypeId × Value → H} {P : Program} {w : World} {base b0 : Nat} {held : Bool} {r : Reach} {α : Type} [Inhabited α]
theorem open_structs (E : Enc α) {S T : TypeId} (hS : P.underlying S = some (.slice T)) (hk : P.cellsOf T = E.k) {Good : α → DataW H → Prop}
    (hpart : ∀ n cs y, DataW.trod enc P w base (fun _ => true) held n T cs = some y → ∃ x, cs = E.f x ∧ Good x y.1) {fuel : Nat} {cs : List Value} {x : DataW H × List MemPlace} (h : DataW.trod enc P w base (fun _ => true) held fuel S cs = some x) :
    ∃ (l : List α) (v : Value), cs = [v] ∧ ReadsE E w v l ∧ (∃ a c, v = .slice a l.length c ∧ l.length ≤ c ∧ c ≤ 9223372036854775807) ∧ (∀ a ∈ l, ∃ d, Good a d) ∧ StD Good x.1 l := by
  rcases Deep.open_slice hS h with ⟨rfl, rfl⟩ | ⟨a, len, cap, m, n, D, Pl, rfl, _, hl, hm, hmm, rfl, hcell⟩
  · exact ⟨[], _, rfl, .inl ⟨⟨_, _, rfl⟩, rfl⟩, ⟨none, 0, rfl, Nat.le_refl _, by omega⟩, (fun a ha => by cases ha), .inl ⟨rfl, rfl⟩⟩
  · simp only [if_true] at hmm
    subst hmm
    have hm' : m ≤ 9223372036854775807 := by unfold maxLen at hm; omega
    have each : ∀ i, i < len → ∃ y : α, w.cells? base (a.add (i * E.k)) E.k = some (E.f y) ∧ Good y (D i) := by
      intro i hi
      obtain ⟨cs', hc, ht⟩ := hcell i (by omega)
      obtain ⟨y, rfl, hg⟩ := hpart _ _ _ ht
      rw [hk] at hc
      exact ⟨y, hc, hg⟩
    obtain ⟨g, hg⟩ := Go.Deep.choose_lt each
    have hcs : ∀ i, i < len → ∀ j, j < E.k → w.cell? ((a.add (i * E.k)).add j) = (E.f (g i))[j]? := fun i hi j hj => by
      obtain ⟨_, _, hat⟩ := World.cells?_some (hg i hi).1
      exact hat j hj
    have hgood : ∀ y ∈ (List.range len).map g, ∃ d, Good y d := fun y hy => by
      obtain ⟨i, hi, rfl⟩ := List.mem_map.1 hy
      exact ⟨_, (hg i (List.mem_range.1 hi)).2⟩
    refine ⟨(List.range len).map g, _, rfl, ?_, ⟨some a, m, by simp, by simpa using hl, hm'⟩, hgood, .inr ⟨_, _, rfl, by simp, fun i hi hj => ?_⟩⟩
    · rcases Nat.eq_zero_or_pos len with rfl | hpos
      · exact .inl ⟨⟨_, _, rfl⟩, rfl⟩
      · have h0 := hcs 0 hpos 0 E.pos
        have hl0 : 0 < (E.f (g 0)).length := by rw [E.len]; exact E.pos
        rw [List.getElem?_eq_getElem hl0] at h0
        obtain ⟨b, off, spot⟩ := a
        have hb : b < w.heap.size ∧ spot = none := by
          unfold World.cell? at h0
          have e1 : (((⟨b, off, spot⟩ : Addr).add (0 * E.k)).add 0).block = b := by unfold Addr.add; split <;> (split <;> rfl)
          rw [e1] at h0
          split at h0
          · rename_i c T0 F0 hb
            refine ⟨(Array.getElem?_eq_some_iff.1 hb).1, ?_⟩
            cases spot with
            | none => rfl
            | some s => simp [Addr.add] at h0
          · cases h0
        obtain ⟨hb, rfl⟩ := hb
        refine .inr ⟨b, off, m, by simp, hb, fun j u hj => ?_⟩
        have hjl : j < len * E.k := by
          have := (List.getElem?_eq_some_iff.1 hj).1
          rw [E.all_len, List.length_map, List.length_range] at this
          exact this
        have hd : j = j / E.k * E.k + j % E.k := by rw [Nat.mul_comm]; exact (Nat.div_add_mod _ _).symm
        have hr : j % E.k < E.k := Nat.mod_lt _ E.pos
        have ha : j / E.k < len := Nat.div_lt_of_lt_mul (by rwa [Nat.mul_comm])
        generalize j / E.k = q at hd ha
        generalize j % E.k = s at hd hr
        subst hd
        have := E.all_get ((List.range len).map g) q (by simpa using ha) s hr
        rw [this] at hj
        simp only [List.getElem_map, List.getElem_range] at hj
        have := hcs q ha s hr
        rw [addr_at, addr_at] at this
        rw [← Nat.add_assoc, this]; exact hj
    · simp only [List.getElem_map, List.getElem_range]
      exact (hg i (by simpa using hi)).2
end
section
variable {H : Type} {P : Program} {ts : List TypeId} {ds : List (DataW H)} {α : Type}
/-- All weights at most what is reached. -/
def LightD (P : Program) (t : TypeId) (d : DataW H) : Prop := ∀ n ∈ d.weights P t, n ≤ reachBytes
theorem light_arg (h : (DataW.weightsEach P ts ds).all (· ≤ reachBytes) = true) {j : Nat} {t : TypeId} {d : DataW H} (ht : ts[j]? = some t) (hd : ds[j]? = some d) : LightD P t d :=
  fun n hn => of_decide_eq_true (List.all_eq_true.1 h n (DataW.weights_mem_each ht hd n hn))
theorem light_each {n : Nat} {t : TypeId} {d : DataW H} : ∀ {fs : List TypeId} {ys : List (DataW H)} {i : Nat}, fs[i]? = some t → ys[i]? = some d → n ∈ d.weights P t → n ∈ DataW.weightsEach P fs ys := by
  intro fs
  induction fs with
  | nil => intro ys i h; simp at h
  | cons f fs ih =>
    intro ys i h1 h2 h3
    cases ys with
    | nil => simp at h2
    | cons y ys =>
      simp only [DataW.weightsEach, List.mem_append]
      cases i with
      | zero => simp at h1 h2; subst h1 h2; exact .inl h3
      | succ i => exact .inr (ih (by simpa using h1) (by simpa using h2) h3)
theorem light_field {t u : TypeId} {fs : Array Field} {f : Field} {ys : List (DataW H)} {d : DataW H} (h : LightD P t (.agg ys)) (hu : P.underlying t = some (.struct fs)) {i : Nat} (hf : fs[i]? = some f) (hft : f.type = u) (hy : ys[i]? = some d) : LightD P u d :=
  fun n hn => h n (by
    simp only [DataW.weights, hu]
    exact light_each (i := i) (t := u) (by simp [hf, hft]) hy hn)
theorem light_len {S T : TypeId} {xs spare : List (DataW H)} (h : LightD P S (.slice xs spare)) (hS : P.underlying S = some (.slice T)) (hb : 1 ≤ P.bytesOf T) : xs.length ≤ 140737488351232 := by
  have := h ((xs.length + spare.length) * P.bytesOf T) (by simp [DataW.weights, hS])
  have h2 : xs.length * 1 ≤ (xs.length + spare.length) * P.bytesOf T := Nat.mul_le_mul (by omega) hb
  simp [reachBytes] at this
  omega
theorem light_at {S T : TypeId} {xs spare : List (DataW H)} {d : DataW H} (h : LightD P S (.slice xs spare)) (hS : P.underlying S = some (.slice T)) (hd : d ∈ xs) : LightD P T d :=
  fun n hn => h n (by
    simp only [DataW.weights, hS]
    exact List.mem_cons_of_mem _ (List.mem_append.2 (.inl (weights_all hd hn))))
theorem StD.len {S T : TypeId} {Good : α → DataW H → Prop} {d : DataW H} {l : List α} (h : StD Good d l) (hw : LightD P S d) (hS : P.underlying S = some (.slice T)) (hb : 1 ≤ P.bytesOf T) : l.length ≤ 140737488351232 := by
  rcases h with ⟨_, rfl⟩ | ⟨xs, spare, rfl, e, _⟩
  · simp
  · rw [← e]; exact light_len hw hS hb
theorem StD.each {S T : TypeId} {Good : α → DataW H → Prop} {d : DataW H} {l : List α} (h : StD Good d l) (hw : LightD P S d) (hS : P.underlying S = some (.slice T)) : ∀ a ∈ l, ∃ y, Good a y ∧ LightD P T y := by
  intro a ha
  rcases h with ⟨_, rfl⟩ | ⟨xs, spare, rfl, e, g⟩
  · cases ha
  · obtain ⟨i, hi, rfl⟩ := List.getElem_of_mem ha
    exact ⟨xs[i]'(by omega), g i hi (by omega), light_at hw hS (List.getElem_mem _)⟩
end
end Go.Proofs.Ytlbjfigdocbffaa
