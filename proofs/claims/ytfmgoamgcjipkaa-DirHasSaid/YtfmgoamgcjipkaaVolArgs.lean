/- Volumes that came in as arguments. -/
import Derived.Test.YtfmgoamgcjipkaaDirWalk2
import Derived.Test.YtfmgoamgcjipkaaAggArgs
import Derived.Test.YtfmgoamgcjipkaaArgs
import Derived.Deep.Slices
namespace Go.Proofs.Ytfmgoamgcjipkaa
open Go.RowKit Go.ChangeShapes Go.WideShapes Go.Deep
set_option linter.unusedVariables false
set_option linter.unusedSimpArgs false

def VolD {H : Type} (x : Vol) : DataW H := .agg [.lit (.string x.n.data.toList), .lit (.int .i64 x.s), .lit (.int .i64 x.r)]
def In64 (a : Int) : Prop := -9223372036854775808 ≤ a ∧ a ≤ 9223372036854775807
theorem vol_flat : flatF Try.prog (Try.prog.fieldsOf 24) = true := by kernel_rfl
theorem vol_cells : Try.prog.cellsOf 24 = (Try.prog.fieldsOf 24).size := by kernel_rfl
theorem vol_und : Try.prog.underlying 24 = some (.struct (Try.prog.fieldsOf 24)) := by kernel_rfl
theorem vol_fsize : (Try.prog.fieldsOf 24).size = 3 := by kernel_rfl
section
variable {H : Type} {enc : TypeId × Value → H} {w : World} {base b0 : Nat} {spare : Nat → Bool} {held : Bool} {r : Reach}
theorem open_vol {v : Value} {d : DataW H} {p : List MemPlace} (hv : Value.okWide Try.prog w r b0 24 v) (h : DataW.Trod enc Try.prog w base spare held 24 v d p) :
    ∃ x : Vol, v = x.v ∧ d = VolD x ∧ In64 x.s ∧ In64 x.r := by
  obtain ⟨cs, ys, n, rfl, hsz, rfl, hyl, hg⟩ := open_fields vol_und vol_flat vol_cells hv h
  have g0 := hg 0 _ rfl
  have g1 := hg 1 _ rfl
  have g2 := hg 2 _ rfl
  obtain ⟨c0, y0, e0, k0, t0⟩ := g0
  obtain ⟨c1, y1, e1, k1, t1⟩ := g1
  obtain ⟨c2, y2, e2, k2, t2⟩ := g2
  obtain ⟨a0, rfl, d0⟩ := field_string Try.underlying9 t0
  obtain ⟨a1, rfl, d1, r1⟩ := field_int Try.underlying3 t1
  obtain ⟨a2, rfl, d2, r2⟩ := field_int Try.underlying3 t2
  refine ⟨⟨a0, a1, a2⟩, ?_, ?_, r1, r2⟩
  · obtain ⟨l⟩ := cs
    match l, (show l.length = 3 from hsz) with
    | [q0, q1, q2], _ =>
      simp at e0 e1 e2
      subst e0 e1 e2
      rfl
  · match ys, (show ys.length = 3 from hyl) with
    | [q0, q1, q2], _ =>
      simp at k0 k1 k2
      subst k0 k1 k2
      simp [VolD, d0, d1, d2]
end
section
variable {H : Type} {enc : TypeId × Value → H} {w : World} {base b0 : Nat} {held : Bool} {r : Reach}
set_option maxRecDepth 100000 in
theorem open_vols {v : Value} {d : DataW H} {p : List MemPlace} (hval : Value.okWide Try.prog w r b0 22 v) (h : DataW.Trod enc Try.prog w base (fun _ => true) held 22 v d p) :
    ∃ l : List Vol, ReadsE volE w v l ∧ (∀ a n c, v = .slice a n c → n ≤ c ∧ c ≤ 9223372036854775807) ∧ (∀ x ∈ l, In64 x.s ∧ In64 x.r) ∧ (d = .nil ∧ l = [] ∨ ∃ spare, d = .slice (l.map VolD) spare) := by
  obtain ⟨fuel, hf⟩ := h
  obtain ⟨a0, len0, cap0, rfl⟩ := okWide_slice Try.underlying22 hval
  rcases Deep.open_slice Try.underlying22 hf with ⟨hcs, hx⟩ | ⟨a, len, cap, m, n, D, Pl, hcs, _, hl, hm, hmm, hx, hcell⟩
  · simp [Value.cells] at hcs
    obtain ⟨rfl, rfl, rfl⟩ := hcs
    simp only [Prod.mk.injEq] at hx
    exact ⟨[], .inl ⟨rfl, rfl⟩, (fun a n c e => by simp at e; omega), (fun x hx => by cases hx), .inl ⟨hx.1, rfl⟩⟩
  · simp [Value.cells] at hcs
    obtain ⟨rfl, rfl, rfl⟩ := hcs
    simp only [Prod.mk.injEq] at hx
    simp only [if_true] at hmm
    subst hmm
    obtain ⟨h1, h2, h3⟩ := okWide_at Try.underlying22 hval
    obtain ⟨b, off, spot⟩ := a
    simp only at h1 h2
    subst h1
    have each : ∀ i, i < len0 → ∃ x : Vol, (w.cell? ⟨b, off + i * 3, none⟩ = some (.string x.n) ∧ w.cell? ⟨b, off + i * 3 + 1, none⟩ = some (.int .i64 x.s) ∧ w.cell? ⟨b, off + i * 3 + 2, none⟩ = some (.int .i64 x.r)) ∧ D i = VolD x ∧ In64 x.s ∧ In64 x.r := by
      intro i hi
      obtain ⟨cs', hc, ht'⟩ := hcell i (by omega)
      obtain ⟨ys, n', hy, hcl, hyl, hg⟩ := trod_fields vol_und vol_flat vol_cells ht'
      simp only [Prod.mk.injEq] at hy
      obtain ⟨_, _, hat⟩ := World.cells?_some hc
      obtain ⟨c0, y0, e0, k0, t0⟩ := hg 0 _ rfl
      obtain ⟨c1, y1, e1, k1, t1⟩ := hg 1 _ rfl
      obtain ⟨c2, y2, e2, k2, t2⟩ := hg 2 _ rfl
      obtain ⟨a0, rfl, d0⟩ := field_string Try.underlying9 t0
      obtain ⟨a1, rfl, d1, r1⟩ := field_int Try.underlying3 t1
      obtain ⟨a2, rfl, d2, r2⟩ := field_int Try.underlying3 t2
      have f : ∀ j, j < 3 → w.cell? ⟨b, off + i * 3 + j, none⟩ = cs'[j]? := fun j hj => by
        have := hat j (by rw [vol_cells, vol_fsize]; exact hj)
        rw [addr_at, vol_cells, vol_fsize, addr_at] at this
        exact this
      refine ⟨⟨a0, a1, a2⟩, ⟨(f 0 (by decide)).trans e0, (f 1 (by decide)).trans e1, (f 2 (by decide)).trans e2⟩, ?_, r1, r2⟩
      rw [hy.1]
      match ys, (show ys.length = 3 from hyl) with
      | [q0, q1, q2], _ =>
        simp at k0 k1 k2
        subst k0 k1 k2
        simp [VolD, d0, d1, d2]
    obtain ⟨g, hg⟩ := Go.Deep.choose_lt each
    refine ⟨(List.range len0).map g, .inr ⟨b, off, m, by simp, h2, fun j u hj => ?_⟩, fun a n c e => ?_, fun x hx' => ?_, .inr ⟨_, by rw [hx.1]; congr 1; rw [List.map_map]; apply List.map_congr_left; intro i hi; exact (hg i (List.mem_range.1 hi)).2.1⟩⟩
    · have hjl : j < len0 * 3 := by
        have := (List.getElem?_eq_some_iff.1 hj).1
        rw [volE.all_len, List.length_map, List.length_range] at this
        exact this
      have hd : j = j / 3 * 3 + j % 3 := by omega
      have hr : j % 3 < 3 := Nat.mod_lt _ (by decide)
      have ha : j / 3 < len0 := by omega
      generalize j / 3 = q at hd ha
      generalize j % 3 = s at hd hr
      subst hd
      have := volE.all_get ((List.range len0).map g) q (by simpa using ha) s hr
      rw [show volE.k = 3 from rfl] at this
      rw [this] at hj
      simp only [List.getElem_map, List.getElem_range] at hj
      obtain ⟨⟨c0, c1, c2⟩, _⟩ := hg q ha
      rw [← hj, ← Nat.add_assoc]
      rcases (by omega : s = 0 ∨ s = 1 ∨ s = 2) with rfl | rfl | rfl
      · exact c0
      · exact c1
      · exact c2
    · simp at e
      obtain ⟨_, rfl, rfl⟩ := e
      exact ⟨hl, by unfold maxLen at hm; omega⟩
    · obtain ⟨i, hi, rfl⟩ := List.mem_map.1 hx'
      exact (hg i (List.mem_range.1 hi)).2.2
end
section
variable {H : Type} {ts : List TypeId} {ds : List (DataW H)}
theorem sized_vol (h : (DataW.weightsEach Try.prog ts ds).all (· ≤ reachBytes) = true) {j : Nat} {x : Vol} (ht : ts[j]? = some 24) (hd : ds[j]? = some (VolD x)) : x.n.size ≤ 140737488351232 := by
  have h1 := sized_field h (i := 0) ht hd vol_und rfl rfl
  simpa using h1
theorem sized_vols (h : (DataW.weightsEach Try.prog ts ds).all (· ≤ reachBytes) = true) {j : Nat} {l : List Vol} {d : DataW H} (ht : ts[j]? = some 22) (hd : ds[j]? = some d)
    (hl : d = .nil ∧ l = [] ∨ ∃ spare, d = .slice (l.map VolD) spare) : l.length ≤ 140737488351232 ∧ VolsOk l := by
  rcases hl with ⟨_, rfl⟩ | ⟨spare, rfl⟩
  · exact ⟨by simp, fun i hi => by simp at hi⟩
  · have h1 := sized_slice h ht hd Try.underlying22
    rw [show Try.prog.bytesOf 24 = 32 by kernel_rfl, List.length_map] at h1
    refine ⟨?_, fun i hi => ?_⟩
    · have : l.length * 1 ≤ (l.length + spare.length) * 32 := Nat.mul_le_mul (by omega) (by decide)
      simp [reachBytes] at h1
      omega
    · rw [Dr.at_get hi]
      have hm := List.getElem_mem hi
      generalize l[i] = x at hm
      have := List.all_eq_true.1 h x.n.size (DataW.weights_mem_each ht hd x.n.size (by
        simp only [DataW.weights, Try.underlying22]
        refine List.mem_cons_of_mem _ (List.mem_append.2 (.inl ?_))
        refine weights_all (d := VolD x) (List.mem_map.2 ⟨x, hm, rfl⟩) ?_
        simp only [DataW.weights, VolD, vol_und]
        have := weights_at (P := Try.prog) (fs := (Try.prog.fieldsOf 24).toList.map (·.type)) (ys := ([.lit (.string x.n.data.toList), .lit (.int .i64 x.s), .lit (.int .i64 x.r)] : List (DataW H))) (i := 0) (t := 9) (bytes := x.n.data.toList) (by kernel_rfl) rfl
        simpa using this))
      have h3 : x.n.size ≤ reachBytes := by simpa using this
      simpa [reachBytes] using h3
end
end Go.Proofs.Ytfmgoamgcjipkaa
