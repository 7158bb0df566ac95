/- member: what is read. -/
import Derived.Test.YtofhmdbilhdblaaMemBase
namespace Go.Proofs.Ytofhmdbilhdblaa
open Go.RowKit
set_option linter.unusedVariables false
set_option linter.unusedSimpArgs false

theorem in64_nat (i : Nat) (h : i ≤ 9223372036854775807) : In64 (i : Int) := by
  have h1 : IntKind.i64.min = -9223372036854775808 := by decide
  have h2 : IntKind.i64.max = 9223372036854775807 := by decide
  unfold In64; simp [Lit.wf, h1, h2]; omega
/-- A load whose run is known. -/
theorem wpList_load_run {P : Program} {w : World} {ops : Array Oper} {rest : List Oper} {o : Oper} {a : Act} {Q : Exit → Act → World → Prop} {ty : TypeId} {p v : Value}
    (hr : (Instr.loadAt ty p).run P w = .ok v w) (hg : o.guard = none) (x : Operand) (hop : o.op = .load ty x) (hx : a.eval x = p) (h : wpList P ops Q rest (a.put o.dst v) w) : wpList P ops Q (o :: rest) a w := by
  refine wpList_plain hg fun K' hK' => ?_
  unfold Oper.wp execOp
  simp only [hop, hx, Sem.run_bind, Sem.run_pure, hr, Result.andThen_ok]
  exact hK' _ _ h
/-- What was written last. -/
def lastOf (l : List ByteArray) (d : ByteArray) : ByteArray := l.getLastD d
theorem lastOf_nil (d : ByteArray) : lastOf [] d = d := rfl
theorem lastOf_get (l : List ByteArray) (d : ByteArray) (h : l ≠ []) (h2 : l.length - 1 < l.length) : lastOf l d = l[l.length - 1] := by
  unfold lastOf
  rw [List.getLastD_eq_getLast?, List.getLast?_eq_getElem?, List.getElem?_eq_getElem h2]; rfl
theorem read_dead {w : World} {S : Nat → Prop} {m g bp cap : Nat} {L : List ByteArray} {V : Int → List ByteArray} {F : Int → Value} (h : PBox w S m g bp cap true L V F) (n : Int) :
    Calls Try.prog 23 #[.pointer (some ⟨m, 0, none⟩), .int .i64 n] w fun e w' => e = .returned (.tuple #[.string ⟨#[]⟩, .int .i64 80]) ∧ w = w' := by
  have c0 := h.c0
  clear h
  go_enter Try.func23, Try.ntmps23
  go_wp2
  go_ret2
  exact ⟨rfl, rfl⟩
theorem read_range {w : World} {S : Nat → Prop} {m g bp cap : Nat} {L : List ByteArray} {V : Int → List ByteArray} {F : Int → Value} (h : PBox w S m g bp cap false L V F) (n : Int) (hn : hasN L n = false) :
    Calls Try.prog 23 #[.pointer (some ⟨m, 0, none⟩), .int .i64 n] w fun e w' => e = .returned (.tuple #[.string ⟨#[]⟩, .int .i64 81]) ∧ w = w' := by
  have c0 := h.c0
  have ch := has_any h n
  rw [hn] at ch
  clear h
  go_enter Try.func23, Try.ntmps23
  go_wp2_with (fail)
  refine ch.mono ?_
  rintro e w' ⟨rfl, rfl⟩
  go_wp2
  go_ret2
  exact ⟨rfl, rfl⟩
def GivesR (w : World) (s : ByteArray) (q : Int) (e : Ending) (w' : World) : Prop := e = .returned (.tuple #[.string s, .int .i64 q]) ∧ Below w.heap.size w w'
set_option maxRecDepth 100000 in
set_option maxHeartbeats 1000000 in
theorem read_any {w : World} {S : Nat → Prop} {m g bp cap : Nat} {L : List ByteArray} {V : Int → List ByteArray} {F : Int → Value} (h : PBox w S m g bp cap false L V F) (i : Nat) (hi : i < L.length) (hvn : (V i).length ≤ 4611686018427387904) :
    Calls Try.prog 23 #[.pointer (some ⟨m, 0, none⟩), .int .i64 (i : Int)] w (GivesR w (lastOf (V i) L[i]) 0) := by
  have hn2 := h.n2
  have hI := in64_nat i (by omega)
  have hh : hasN L i = true := by unfold hasN; rw [decide_eq_true (by omega), decide_eq_true (by omega)]; rfl
  have c0 := h.c0
  have c1 := h.c1
  have ch := has_any h i
  rw [hh] at ch
  have hld := h.loadL hi
  have hz := (zero_of_info cont_zs).1
  have hst : ∀ s t, (storeCells ⟨w.heap.size, 0, none⟩ (contL t).toArray.toList 0).run Try.prog (w.alloc (.cells (contL s).toArray 80)) = .ok () (w.alloc (.cells (contL t).toArray 80)) :=
    fun s t => run_storeCells_new (P := Try.prog) w 80 (contL s).toArray (contL t).toArray (cont_isa t) (by rw [cont_size, cont_size]) (cont_one t)
  have hs0 := hst zero128 L[i]
  have hB : ∀ s, PBox (w.alloc (.cells (contL s).toArray 80)) S m g bp cap false L V F := fun s => h.below ((Below.refl _ _).alloc (Nat.le_refl _) _)
  have hB0 := hB L[i]
  have c2 := hB0.c2
  have hlk := hB0.look hI
  have hrow := hB0.r i hI
  have hsl : ∀ W : World, (Instr.sliceAt 80 (.pointer (some ⟨w.heap.size, 0, none⟩)) none none none).run Try.prog W = .ok (.slice (some ⟨w.heap.size, 0, none⟩) 128 128) W := fun W => by
    simp [Instr.sliceAt, Instr.slice, Instr.sureAddr, run_underlying cont_under, Instr.sliceBounds, Instr.sliceBound, asIntOf, asAddr]
    exact addr_at _ _ _
  have hstr : ∀ s : ByteArray, s.size = 128 → (convert 81 9 (.slice (some ⟨w.heap.size, 0, none⟩) 128 128)).run Try.prog (w.alloc (.cells (contL s).toArray 80)) = .ok (.string s) (w.alloc (.cells (contL s).toArray 80)) := fun s hs =>
    cont_str s hs fun j hj => by rw [World.cell?_alloc_mark]; simp
  have hB1 : ∀ s, Below w.heap.size w (w.alloc (.cells (contL s).toArray 80)) := fun s => (Below.refl _ _).alloc (Nat.le_refl _) _
  have hlt : ((i : Nat) : Int) < (L.length : Int) := by omega
  have hsz := h.zl L[i] (List.getElem_mem hi)
  by_cases hv : V i = []
  · have hf := hrow
    rw [hv] at hf
    have hlen : ∀ W, (Builtin.len_ #[71] 3 #[F i]).run Try.prog W = .ok (.int .i64 0) W := fun W => hf.reads.len_run (P := Try.prog) Try.underlying71 3 W
    have hstr0 := hstr _ hsz
    have hB10 := hB1 L[i]
    rw [hv, lastOf_nil]
    have hcl := contL_len L[i]
    clear hf hv hrow hstr hsz hst h hB hB0 hn2 hI hh hB1
    generalize contL zero128 = z0 at *
    generalize L[i] = s at *
    generalize F i = v at *
    generalize contL s = cs at *
    go_enter Try.func23, Try.ntmps23
    go_wp2_with (fail)
    refine ch.mono ?_
    rintro e w' ⟨rfl, rfl⟩
    go_wp2_with (with_reducible refine wpList_load_run hld rfl _ rfl rfl ?_)
    go_ret2
    exact ⟨rfl, hB10⟩
  · obtain ⟨k, hk⟩ : ∃ k, (V i).length = k + 1 := ⟨(V i).length - 1, by have := List.length_pos_iff.2 hv; omega⟩
    have hkl : k < (V i).length := by omega
    obtain ⟨gg, cv, hF, _, _⟩ := hrow.form (by omega)
    rw [hF] at hrow hlk
    have hlen : ∀ W, (Builtin.len_ #[71] 3 #[.slice (some ⟨gg, 0, none⟩) (k + 1) cv]).run Try.prog W = .ok (.int .i64 ((k : Int) + 1)) W := fun W => by
      have := hrow.reads.len_run (P := Try.prog) Try.underlying71 3 W
      rw [hk] at this
      exact this
    have hld2 := row_load (v := F i) hrow hkl
    have hs1 := hst L[i] (V i)[k]
    have hcl := contL_len L[i]
    have hcl2 := contL_len (V i)[k]
    have hlast : lastOf (V i) L[i] = (V i)[k] := by
      rw [lastOf_get _ _ hv (by omega)]
      congr 1; omega
    have hstr0 := hstr _ (h.zv i _ (List.getElem_mem hkl))
    have hB10 := hB1 (V i)[k]
    rw [hlast]
    rw [hk] at hlk
    clear hlast hv hrow hstr hsz hst h hB hB0 hn2 hI hh hB1 hF
    generalize contL zero128 = z0 at *
    generalize (V i)[k] = t at *
    generalize L[i] = s at *
    generalize contL s = cs at *
    generalize contL t = ct at *
    have hkb : (k : Int) ≤ 4611686018427387904 := by omega
    have hgt : (0 : Int) < (k : Int) + 1 := by omega
    clear hvn hkl hk
    go_enter Try.func23, Try.ntmps23
    go_wp2_with (fail)
    refine ch.mono ?_
    rintro e w' ⟨rfl, rfl⟩
    go_wp2_with (first | (with_reducible refine wpList_load_run hld rfl _ rfl rfl ?_) | (with_reducible refine wpList_load_run hld2 rfl _ rfl rfl ?_))
    go_ret2
    exact ⟨rfl, hB10⟩
end Go.Proofs.Ytofhmdbilhdblaa

