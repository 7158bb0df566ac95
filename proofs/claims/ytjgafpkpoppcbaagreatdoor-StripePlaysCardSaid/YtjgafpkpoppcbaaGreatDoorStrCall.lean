import Derived.Test.YtjgafpkpoppcbaaGreatDoorStrAw
import Derived.Test.YtjgafpkpoppcbaaGreatDoorStrMath5
set_option linter.unusedVariables false
set_option linter.unusedSimpArgs false
namespace Go.Proofs.YtjgafpkpoppcbaaGreatDoor
open Go.RowKit
set_option maxRecDepth 100000
theorem mem_rng {l : List Int} (h : ∀ n ∈ l, (Lit.int .i64 n).wf = true) : ∀ x ∈ l, -9223372036854775808 ≤ x ∧ x ≤ 9223372036854775807 := fun x hx => by
  have := h x hx
  simp [Lit.wf, IntKind.min, IntKind.max, IntKind.signed, IntKind.bits] at this
  omega
theorem fits13 {k : Nat} (hk : k ≤ 1000) (ls : List Int) : Fits (dataL13 k ls) := ⟨by rw [dataL13_len]; omega, fun j hj => by
  rw [dataL13_len] at hj
  rw [(data_rect (dataL13_right k ls)).s j hj]; decide⟩
section
variable {w W : World} {S : Nat → Prop} {ka n g : Nat} {K M B : Int} {R : Rk}
theorem st_write (h : SW w S W ka n g K M B R) {c : Nat} (hro : ROk n R c) (hc : c ≤ 100000) {id N : Int} {v vd : Value} {l : List Int} {data : List ByteArray} {X : Rk × List Int × Int} (hX : stW n R id K M B l N data = X) (hl : Lst W S v (l.map (.int .i64))) (hln : l.length ≤ 100000) (hd : Lst W S vd (tx data)) (hF : Fits data) (hdl : data.length ≤ 1000) :
    Calls Tryz.prog 10 #[.pointer (some ⟨ka, 0, none⟩), .int .i64 id, .agg #[.int .i64 K, .int .i64 M, .int .i64 B], v, .agg #[.int .i64 N, vd]] W (EDoes w S W ka n X) := by
  have := stw_any h.ra h.tb c hro id K M B N v vd l data hl.r hl.c (fun _ q hq => (hl.n q hq).2) (by omega) (by omega) hd.r hF (by omega)
  rwa [hX] at this
theorem st_flush (h : SW w S W ka n g K M B R) {c : Nat} (hro : ROk n R c) (hc : c ≤ 100000) {v : Value} {l : List Int} {X : Rk × List Int × Int} (hX : stF n R l = X) (hl : Lst W S v (l.map (.int .i64))) (hln : l.length ≤ 100000) :
    Calls Tryz.prog 5 #[.pointer (some ⟨ka, 0, none⟩), v] W (EDoes w S W ka n X) := by
  have := stf_any h.ra c hro v l hl.r hl.c (fun _ q hq => (hl.n q hq).2) (by omega) (by omega)
  rwa [hX] at this
theorem st_read (h : SW w S W ka n g K M B R) {c : Nat} (hro : ROk n R c) (hc : c ≤ 100000) {id N : Int} {v : Value} {l : List Int} {X : List ByteArray × List Int × Int} (hX : stR n R id K M B l N = X) (hl : Lst W S v (l.map (.int .i64))) (hln : l.length ≤ 100000) :
    Calls Tryz.prog 26 #[.pointer (some ⟨ka, 0, none⟩), .int .i64 id, .agg #[.int .i64 K, .int .i64 M, .int .i64 B], v, .int .i64 N] W (RdDoes W X) := by
  have := str_any h.ra h.tb (hro.le (by omega)) id K M B N v l hl.r hl.c (by omega)
  rwa [hX] at this
theorem SW.cells (h : SW w S W ka n g K M B R) : W.cell? ⟨g, 0, none⟩ = some (.int .i64 K) ∧ W.cell? ⟨g, 1, none⟩ = some (.int .i64 M) ∧ W.cell? ⟨g, 2, none⟩ = some (.int .i64 B) := ⟨heap_cell h.gb rfl, heap_cell h.gb rfl, heap_cell h.gb rfl⟩
theorem Below.drewZ (w : World) : Below w.heap.size w w.drew := ⟨rfl, rfl, rfl, Nat.le_refl _, fun _ _ => rfl⟩
end
end Go.Proofs.YtjgafpkpoppcbaaGreatDoor
