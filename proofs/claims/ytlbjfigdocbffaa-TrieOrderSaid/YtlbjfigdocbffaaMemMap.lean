/- Maps from ints to whatever values: what a map's block holds, for whatever program. -/
import Derived.Test.YtlbjfigdocbffaaSk
import Derived.Maps.Range
import Derived.Maps.RangeWalk
namespace Go.Proofs.Ytlbjfigdocbffaa
open Go.RowKit
set_option linter.unusedVariables false
set_option linter.unusedSimpArgs false

/-- An element is what it is. -/
def RV : Value → Option (DataW Value × List MemPlace) := fun v => some (.held v, [])
def kz (z : Int) : Lit := .int .i64 z
def In64 (z : Int) : Prop := (Lit.int .i64 z).wf = true
def updZ {α : Type} (F : Int → α) (z : Int) (v : α) : Int → α := fun y => if y = z then v else F y
theorem updZ_same {α : Type} (F : Int → α) (z : Int) (v : α) : updZ F z v z = v := if_pos rfl
theorem updZ_other {α : Type} (F : Int → α) (z y : Int) (v : α) (h : y ≠ z) : updZ F z v y = F y := if_neg h
theorem kz_ne {y z : Int} (h : y ≠ z) : kz y ≠ kz z := fun e => h (by injection e)
theorem kz_key {P : Program} {k : TypeId} (hk : P.underlying k = some (.int .i64)) {z : Int} (hz : In64 z) : keyOf P k (.int .i64 z) = some (kz z) := Maps.keyOf_int_mk hk hz
/-- Block b is a map of at most n entries: Z tells which keys, V what is at them, d what else is told. -/
def MapZ (w : World) (P : Program) (k : TypeId) (b n : Nat) (Z : Int → Bool) (V : Int → Value) (d : Value) : Prop :=
  ∃ D, w.ownsMap P k RV b n D ∧ ∀ z, In64 z → Maps.has D (kz z) = Z z ∧ D.atKey (kz z) (.held d) = .held (V z)
section
variable {w w' : World} {P : Program} {k : TypeId} {b n : Nat} {Z : Int → Bool} {V : Int → Value} {d : Value}
theorem MapZ.lt (h : MapZ w P k b n Z V d) : b < w.heap.size := by obtain ⟨D, h, _⟩ := h; exact h.lt
theorem MapZ.heap (h : MapZ w P k b n Z V d) (e : w'.heap[b]? = w.heap[b]?) : MapZ w' P k b n Z V d := by
  obtain ⟨D, ⟨es, clock, hb, r⟩, h2⟩ := h
  exact ⟨D, ⟨es, clock, e.trans hb, r⟩, h2⟩
theorem MapZ.mono (h : MapZ w P k b n Z V d) {m : Nat} (hm : n ≤ m) : MapZ w P k b m Z V d := by obtain ⟨D, h1, h2⟩ := h; exact ⟨D, h1.mono hm, h2⟩
theorem MapZ.made (w : World) (P : Program) (k : TypeId) (d : Value) : MapZ (w.alloc (.map #[] 0)) P k w.heap.size 0 (fun _ => false) (fun _ => d) d :=
  ⟨.map [], World.ownsMap_made w P k RV, fun z _ => ⟨rfl, rfl⟩⟩
/-- What is read at a key. -/
theorem MapZ.look (hk : P.underlying k = some (.int .i64)) {t e : TypeId} (ht : P.underlying t = some (.map k e)) (hz : ∀ w, (zeroValue e).run P w = .ok d w) (h : MapZ w P k b n Z V d) {z : Int} (hi : In64 z) :
    (Instr.lookup t (.map (some b)) (.int .i64 z) false).run P w = .ok (V z) w := by
  obtain ⟨D, h1, h2⟩ := h
  obtain ⟨v, ps, hr, hv⟩ := h1.lookup (Maps.int_keyed hk) ht (hz w) (zd := .held d) (zp := []) rfl (kz_key hk hi)
  rw [(h2 z hi).2] at hv
  have e1 : (DataW.held v : DataW Value) = .held (V z) := congrArg (fun o => match o with | some p => p.1 | none => .nil) hv
  injection e1 with e1
  rw [← e1]; exact hr
theorem isKey_kz (hk : P.underlying k = some (.int .i64)) {z : Int} (hi : In64 z) : WideAt.IsKeyLit (kz z) := (Maps.int_keyed hk).key (kz_key hk hi)
theorem MapZ.store (hk : P.underlying k = some (.int .i64)) {t e : TypeId} (ht : P.underlying t = some (.map k e)) (h : MapZ w P k b n Z V d) (hn : n < maxLen) {z : Int} (hi : In64 z) (v : Value) :
    ∃ w', (Instr.mapUpdate t (.map (some b)) (.int .i64 z) v).run P w = .ok () w' ∧ MapZ w' P k b (n + 1) (updZ Z z true) (updZ V z v) d ∧ w.mapTurned w' b := by
  obtain ⟨D, h1, h2⟩ := h
  obtain ⟨w', a, c, e⟩ := h1.store (Maps.int_keyed hk) ht hn (kz_key hk hi) (val := v) (d := .held v) (ps := []) rfl
  refine ⟨w', a, ⟨_, c, fun y hy => ?_⟩, e⟩
  by_cases hyz : y = z
  · subst hyz
    rw [Maps.has_put_same h1.isMap (isKey_kz hk hi), Maps.atKey_put_same h1.isMap (isKey_kz hk hi), updZ_same, updZ_same]
    exact ⟨rfl, rfl⟩
  · rw [Maps.has_put_other (kz_ne hyz), Maps.atKey_put_other (kz_ne hyz), updZ_other _ _ _ _ hyz, updZ_other _ _ _ _ hyz]
    exact h2 y hy
/-- Nothing is left. -/
theorem MapZ.clear {t e : TypeId} (ht : P.underlying t = some (.map k e)) (h : MapZ w P k b n Z V d) (ty : TypeId) :
    ∃ w', (Builtin.clear_ #[t] ty #[.map (some b)]).run P w = .ok (.tuple #[]) w' ∧ MapZ w' P k b 0 (fun _ => false) (fun _ => d) d ∧ w.mapTurned w' b := by
  obtain ⟨D, ⟨es, clock, hb, F, hs, hD⟩, h2⟩ := h
  refine ⟨ChangeMaps.setBlock w b (.map #[] clock), ?_, ⟨.map [], ⟨#[], clock, ?_, ⟨by simp, MapKept.stamped_empty _, by simp⟩, Nat.le_refl _, rfl⟩, fun z _ => ⟨rfl, rfl⟩⟩, ⟨es, clock, #[], clock, hb, rfl⟩⟩
  · simp [Builtin.clear_, run_underlying ht, MapKept.run_getObj_map hb, MapKept.run_setObj_map _ hb, Result.andThen, ChangeMaps.setBlock]
  · exact ChangeMaps.heap_setBlock_same hb _
open Classical in
theorem nodup_le {α : Type} : ∀ (l m : List α), l.Nodup → (∀ x ∈ l, x ∈ m) → l.length ≤ m.length
  | [], m, _, _ => Nat.zero_le _
  | a :: l, m, hd, hs => by
    have ha := hs a (by simp)
    have := nodup_le l (m.erase a) (List.nodup_cons.1 hd).2 (fun x hx => (List.mem_erase_of_ne (fun e => (List.nodup_cons.1 hd).1 (by rw [← e]; exact hx))).2 (hs x (by simp [hx])))
    rw [List.length_erase_of_mem ha] at this
    have : 0 < m.length := List.length_pos_of_mem ha
    simp only [List.length_cons]; omega
/-- A map whose keys lie below N has at most N entries. -/
theorem MapZ.tight (hk : P.underlying k = some (.int .i64)) (h : MapZ w P k b n Z V d) (N : Nat) (hN : ∀ z, In64 z → Z z = true → 0 ≤ z ∧ z < (N : Int)) : MapZ w P k b N Z V d := by
  obtain ⟨D, h1, h2⟩ := h
  refine ⟨D, ?_, h2⟩
  obtain ⟨l, rfl, hp, hkey⟩ := h1.entries (Maps.int_keyed hk)
  have hsz : l.length ≤ N := by
    have := nodup_le (l.map fun p => p.1) ((List.range N).map fun i : Nat => kz (i : Int)) (by rw [List.Nodup, List.pairwise_map]; exact hp) (fun x hx => ?_)
    · simpa using this
    · obtain ⟨p, hpm, rfl⟩ := List.mem_map.1 hx
      obtain ⟨es, clock, hb, F, hs, hD⟩ := h1
      have hpm' : p ∈ ((es.toList.map (WideElems.rg P k RV)).foldr DataW.insert []) := by injection hD with hD; rw [← hD]; exact hpm
      obtain ⟨x, hxe, rfl⟩ := List.mem_map.1 (mem_sorted.1 hpm')
      obtain ⟨y, hy⟩ := F.reads x hxe
      obtain ⟨a, _, ha2, haw⟩ := Maps.keyOf_int_inv hk (WideElems.rd_key hy)
      have e1 : (WideElems.rg P k RV x).1 = kz a := by rw [WideElems.rg_of hy]; exact ha2
      have hh : Maps.has (.map l) (kz a) = true := by
        rw [Maps.has_eq]
        exact List.any_eq_true.2 ⟨_, hpm, by rw [← e1]; exact WideAt.sameKey_self (hkey _ hpm)⟩
      rw [(h2 a haw).1] at hh
      obtain ⟨h3, h4⟩ := hN a haw hh
      rw [e1]
      refine List.mem_map.2 ⟨a.toNat, List.mem_range.2 (by omega), ?_⟩
      rw [Int.toNat_of_nonneg h3]
  obtain ⟨es, clock, hb, F, hs, hD⟩ := h1
  refine ⟨es, clock, hb, F, ?_, hD⟩
  injection hD with hD
  rw [hD, length_sorted] at hsz
  simpa using hsz
end
end Go.Proofs.Ytlbjfigdocbffaa

