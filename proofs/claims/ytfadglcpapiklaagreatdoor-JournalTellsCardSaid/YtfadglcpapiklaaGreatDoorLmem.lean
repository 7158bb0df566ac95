/- Lmem: what this claim reaches of MemMap, MemBase, MemRead and others. -/
import Derived.Test.YtfadglcpapiklaaGreatDoorLbase
import Derived.Maps.Range
import Derived.Maps.RangeWalk
import Derived.Tactics
import Derived.Tactics2
import Derived.LoopTactic
import Derived.RegionTactic
import Derived.Outline
import Derived.Deep.RegionWith
import Derived.Deep.MidRow
import Derived.Deep.WholeRow
import Derived.Deep.RegionHeld3
import Derived.Laws.Cover3
import Derived.Laws.OwnMore
import Derived.WideShapes
import Derived.WalkLawsBesides
import Derived.OrdersHeld
import Derived.Deep.RegionHeld
import Derived.Test.YtfadglcpapiklaaGreatDoorShelf
import Derived.Shelf.SlIterI.Sorted
import Derived.Ground.GgzProg
import Derived.Shelf.Lay
import Derived.Deep.Cut
import Derived.Deep.CutRange
section
namespace Go.Proofs.YtfadglcpapiklaaGreatDoor
open Go.RowKit
set_option linter.unusedVariables false
set_option linter.unusedSimpArgs false

/-- An element is what it is. -/
def RV : Value → Option (DataW Value × List MemPlace) := fun v => some (.held v, [])
def kz (z : Int) : Lit := .int .i64 z
def In64 (z : Int) : Prop := (Lit.int .i64 z).wf = true
def updZ {α : Type} (F : Int → α) (z : Int) (v : α) : Int → α := fun y => if y = z then v else F y
theorem updZ_same {α : Type} (F : Int → α) (z : Int) (v : α) : updZ F z v z = v := if_pos rfl
theorem updZ_other {α : Type} (F : Int → α) (z y : Int) (v : α) (h : y ≠ z) : updZ F z v y = F y := if_neg h
theorem kz_ne {y z : Int} (h : y ≠ z) : kz y ≠ kz z := fun e => h (by injection e)
theorem kz_key {P : Program} {k : TypeId} (hk : P.underlying k = some (.int .i64)) {z : Int} (hz : In64 z) : keyOf P k (.int .i64 z) = some (kz z) := Maps.keyOf_int_mk hk hz
/-- Block b is a map of at most n entries: Z tells which keys, V what is at them, d what else is told. -/
def MapZ (w : World) (P : Program) (k : TypeId) (b n : Nat) (Z : Int → Bool) (V : Int → Value) (d : Value) : Prop :=
  ∃ D, w.ownsMap P k RV b n D ∧ ∀ z, In64 z → Maps.has D (kz z) = Z z ∧ D.atKey (kz z) (.held d) = .held (V z)
section
variable {w w' : World} {P : Program} {k : TypeId} {b n : Nat} {Z : Int → Bool} {V : Int → Value} {d : Value}
theorem MapZ.lt (h : MapZ w P k b n Z V d) : b < w.heap.size := by obtain ⟨D, h, _⟩ := h; exact h.lt
theorem MapZ.heap (h : MapZ w P k b n Z V d) (e : w'.heap[b]? = w.heap[b]?) : MapZ w' P k b n Z V d := by
  obtain ⟨D, ⟨es, clock, hb, r⟩, h2⟩ := h
  exact ⟨D, ⟨es, clock, e.trans hb, r⟩, h2⟩
theorem MapZ.mono (h : MapZ w P k b n Z V d) {m : Nat} (hm : n ≤ m) : MapZ w P k b m Z V d := by obtain ⟨D, h1, h2⟩ := h; exact ⟨D, h1.mono hm, h2⟩
theorem MapZ.made (w : World) (P : Program) (k : TypeId) (d : Value) : MapZ (w.alloc (.map #[] 0)) P k w.heap.size 0 (fun _ => false) (fun _ => d) d :=
  ⟨.map [], World.ownsMap_made w P k RV, fun z _ => ⟨rfl, rfl⟩⟩
/-- What is read at a key. -/
theorem MapZ.look (hk : P.underlying k = some (.int .i64)) {t e : TypeId} (ht : P.underlying t = some (.map k e)) (hz : ∀ w, (zeroValue e).run P w = .ok d w) (h : MapZ w P k b n Z V d) {z : Int} (hi : In64 z) :
    (Instr.lookup t (.map (some b)) (.int .i64 z) false).run P w = .ok (V z) w := by
  obtain ⟨D, h1, h2⟩ := h
  obtain ⟨v, ps, hr, hv⟩ := h1.lookup (Maps.int_keyed hk) ht (hz w) (zd := .held d) (zp := []) rfl (kz_key hk hi)
  rw [(h2 z hi).2] at hv
  have e1 : (DataW.held v : DataW Value) = .held (V z) := congrArg (fun o => match o with | some p => p.1 | none => .nil) hv
  injection e1 with e1
  rw [← e1]; exact hr
theorem isKey_kz (hk : P.underlying k = some (.int .i64)) {z : Int} (hi : In64 z) : WideAt.IsKeyLit (kz z) := (Maps.int_keyed hk).key (kz_key hk hi)
theorem MapZ.store (hk : P.underlying k = some (.int .i64)) {t e : TypeId} (ht : P.underlying t = some (.map k e)) (h : MapZ w P k b n Z V d) (hn : n < maxLen) {z : Int} (hi : In64 z) (v : Value) :
    ∃ w', (Instr.mapUpdate t (.map (some b)) (.int .i64 z) v).run P w = .ok () w' ∧ MapZ w' P k b (n + 1) (updZ Z z true) (updZ V z v) d ∧ w.mapTurned w' b := by
  obtain ⟨D, h1, h2⟩ := h
  obtain ⟨w', a, c, e⟩ := h1.store (Maps.int_keyed hk) ht hn (kz_key hk hi) (val := v) (d := .held v) (ps := []) rfl
  refine ⟨w', a, ⟨_, c, fun y hy => ?_⟩, e⟩
  by_cases hyz : y = z
  · subst hyz
    rw [Maps.has_put_same h1.isMap (isKey_kz hk hi), Maps.atKey_put_same h1.isMap (isKey_kz hk hi), updZ_same, updZ_same]
    exact ⟨rfl, rfl⟩
  · rw [Maps.has_put_other (kz_ne hyz), Maps.atKey_put_other (kz_ne hyz), updZ_other _ _ _ _ hyz, updZ_other _ _ _ _ hyz]
    exact h2 y hy
/-- Nothing is left. -/
theorem MapZ.clear {t e : TypeId} (ht : P.underlying t = some (.map k e)) (h : MapZ w P k b n Z V d) (ty : TypeId) :
    ∃ w', (Builtin.clear_ #[t] ty #[.map (some b)]).run P w = .ok (.tuple #[]) w' ∧ MapZ w' P k b 0 (fun _ => false) (fun _ => d) d ∧ w.mapTurned w' b := by
  obtain ⟨D, ⟨es, clock, hb, F, hs, hD⟩, h2⟩ := h
  refine ⟨ChangeMaps.setBlock w b (.map #[] clock), ?_, ⟨.map [], ⟨#[], clock, ?_, ⟨by simp, MapKept.stamped_empty _, by simp⟩, Nat.le_refl _, rfl⟩, fun z _ => ⟨rfl, rfl⟩⟩, ⟨es, clock, #[], clock, hb, rfl⟩⟩
  · simp [Builtin.clear_, run_underlying ht, MapKept.run_getObj_map hb, MapKept.run_setObj_map _ hb, Result.andThen, ChangeMaps.setBlock]
  · exact ChangeMaps.heap_setBlock_same hb _
open Classical in
theorem nodup_le {α : Type} : ∀ (l m : List α), l.Nodup → (∀ x ∈ l, x ∈ m) → l.length ≤ m.length
  | [], m, _, _ => Nat.zero_le _
  | a :: l, m, hd, hs => by
    have ha := hs a (by simp)
    have := nodup_le l (m.erase a) (List.nodup_cons.1 hd).2 (fun x hx => (List.mem_erase_of_ne (fun e => (List.nodup_cons.1 hd).1 (by rw [← e]; exact hx))).2 (hs x (by simp [hx])))
    rw [List.length_erase_of_mem ha] at this
    have : 0 < m.length := List.length_pos_of_mem ha
    simp only [List.length_cons]; omega
/-- A map whose keys lie below N has at most N entries. -/
theorem MapZ.tight (hk : P.underlying k = some (.int .i64)) (h : MapZ w P k b n Z V d) (N : Nat) (hN : ∀ z, In64 z → Z z = true → 0 ≤ z ∧ z < (N : Int)) : MapZ w P k b N Z V d := by
  obtain ⟨D, h1, h2⟩ := h
  refine ⟨D, ?_, h2⟩
  obtain ⟨l, rfl, hp, hkey⟩ := h1.entries (Maps.int_keyed hk)
  have hsz : l.length ≤ N := by
    have := nodup_le (l.map fun p => p.1) ((List.range N).map fun i : Nat => kz (i : Int)) (by rw [List.Nodup, List.pairwise_map]; exact hp) (fun x hx => ?_)
    · simpa using this
    · obtain ⟨p, hpm, rfl⟩ := List.mem_map.1 hx
      obtain ⟨es, clock, hb, F, hs, hD⟩ := h1
      have hpm' : p ∈ ((es.toList.map (WideElems.rg P k RV)).foldr DataW.insert []) := by injection hD with hD; rw [← hD]; exact hpm
      obtain ⟨x, hxe, rfl⟩ := List.mem_map.1 (mem_sorted.1 hpm')
      obtain ⟨y, hy⟩ := F.reads x hxe
      obtain ⟨a, _, ha2, haw⟩ := Maps.keyOf_int_inv hk (WideElems.rd_key hy)
      have e1 : (WideElems.rg P k RV x).1 = kz a := by rw [WideElems.rg_of hy]; exact ha2
      have hh : Maps.has (.map l) (kz a) = true := by
        rw [Maps.has_eq]
        exact List.any_eq_true.2 ⟨_, hpm, by rw [← e1]; exact WideAt.sameKey_self (hkey _ hpm)⟩
      rw [(h2 a haw).1] at hh
      obtain ⟨h3, h4⟩ := hN a haw hh
      rw [e1]
      refine List.mem_map.2 ⟨a.toNat, List.mem_range.2 (by omega), ?_⟩
      rw [Int.toNat_of_nonneg h3]
  obtain ⟨es, clock, hb, F, hs, hD⟩ := h1
  refine ⟨es, clock, hb, F, ?_, hD⟩
  injection hD with hD
  rw [hD, length_sorted] at hsz
  simpa using hsz
end
end Go.Proofs.YtfadglcpapiklaaGreatDoor
end
section
namespace Go.Proofs.YtfadglcpapiklaaGreatDoor
open Go.RowKit
set_option linter.unusedVariables false
set_option linter.unusedSimpArgs false

/-- What a sector holds, in cells. -/
def contL (s : ByteArray) : List Value := (List.range 128).map fun i => byteVal (s.data.toList.getD i 0)
theorem contL_len (s : ByteArray) : (contL s).length = 128 := by simp [contL]
theorem contL_one (s : ByteArray) : ∀ u ∈ contL s, u.oneCell' = true := fun u hu => by
  obtain ⟨i, _, rfl⟩ := List.mem_map.1 hu; rfl
theorem contL_get (s : ByteArray) (i : Nat) (h : i < 128) : (contL s)[i]? = some (byteVal (s.data.toList.getD i 0)) := by simp [contL, h]
def EC : Enc ByteArray := ⟨128, contL, by omega, contL_len, contL_one⟩
theorem ec_k : EC.k = 128 := rfl
theorem ec_f (s : ByteArray) : EC.f s = contL s := rfl
def zero128 : ByteArray := lineOf (List.replicate 128 0)
theorem zero128_size : zero128.size = 128 := by rw [zero128, lineOf_size]; simp
set_option maxRecDepth 100000 in
theorem cont_info : (Tryz.prog.info? 132).map (fun i => (i.zero, i.size, i.bytes)) = some (some (.agg (contL zero128).toArray), 128, 128) := by kernel_rfl
theorem cont_gen {P : Program} {t : TypeId} {c : Value} {n k : Nat} (h : (P.info? t).map (fun i => (i.zero, i.size, i.bytes)) = some (some c, n, k)) :
    (P.info? t).map (fun i => (i.zero, i.size)) = some (some c, n) ∧ ∃ i, P.info? t = some i ∧ i.zero = some c ∧ i.size = n ∧ i.bytes = k := by
  cases hq : P.info? t with
  | none => rw [hq] at h; cases h
  | some i => rw [hq] at h; simp at h; exact ⟨by simp [h.1, h.2.1], i, rfl, h.1, h.2.1, h.2.2⟩
theorem cont_zs : (Tryz.prog.info? 132).map (fun i => (i.zero, i.size)) = some (some (.agg (contL zero128).toArray), 128) := (cont_gen cont_info).1
theorem cont_size (s : ByteArray) : (contL s).toArray.size = 128 := by rw [List.size_toArray, contL_len]
theorem cont_isz (s : ByteArray) : (Tryz.prog.info? 132).map (·.size) = some (contL s).length := by rw [contL_len]; exact (zero_of_info cont_zs).2
theorem cont_isa (s : ByteArray) : (Tryz.prog.info? 132).map (·.size) = some (contL s).toArray.size := by rw [cont_size]; exact (zero_of_info cont_zs).2
theorem cont_one (s : ByteArray) : (contL s).toArray.all (·.oneCell') = true := by
  rw [Array.all_eq_true_iff_forall_mem]
  intro u hu
  exact contL_one s u (by simpa using hu)
theorem cont_under : Tryz.prog.underlying 132 = some (.array 128 5) := by kernel_rfl
theorem cont_is : ∃ i, Tryz.prog.info? 132 = some i ∧ i.zero = some (.agg (contL zero128).toArray) ∧ i.size = EC.k ∧ i.bytes = 128 := (cont_gen cont_info).2
/-- A whole sector is read. -/
theorem cont_load {w : World} {b o : Nat} (s : ByteArray) (h : ∀ j, j < 128 → w.cell? ⟨b, o + j, none⟩ = (contL s)[j]?) : (Instr.loadAt 132 (.pointer (some ⟨b, o, none⟩))).run Tryz.prog w = .ok (.agg (contL s).toArray) w :=
  run_loadAt_mid w b o 132 (contL s) _ (fun j v hj => by
    have hl : j < 128 := by rw [← contL_len s]; exact (List.getElem?_eq_some_iff.1 hj).1
    rw [h j hl]; exact hj) cont_under rfl (cont_isz s)
theorem cont_str {w : World} {b : Nat} (s : ByteArray) (hs : s.size = 128) (h : ∀ j, j < 128 → w.cell? ⟨b, j, none⟩ = (contL s)[j]?) : (convert 113 9 (.slice (some ⟨b, 0, none⟩) 128 128)).run Tryz.prog w = .ok (.string s) w := by
  have hl : s.data.toList.length = 128 := by rw [← hs]; exact Array.length_toList
  have := run_convert_bytes_back (P := Tryz.prog) w 113 9 5 ⟨b, 0, none⟩ 128 s.data.toList Tryz.underlying113 Tryz.underlying5 Tryz.underlying9 (fun j hj => by
    rw [hl] at hj
    rw [addr_at, Nat.zero_add, h j hj, contL_get s j hj, List.getD_eq_getElem?_getD, List.getElem?_eq_getElem (by omega)]; rfl)
  rw [hl] at this
  exact this
theorem OwnE.sameAt {α : Type} {E : Enc α} {w w' : World} {B : Nat} {T : TypeId} {v : Value} {l : List α} (h : OwnE E w B T v l) (hk : ∀ k, v.ownBlock = some k → w'.heap[k]? = w.heap[k]?) : OwnE E w' B T v l := by
  refine ⟨h.o.1, ?_⟩
  rcases h.o.2 with h1 | ⟨g, cap, cur, h1, h2, h3, h4⟩
  · exact .inl h1
  · exact .inr ⟨g, cap, cur, h1, h2, by rw [hk g (by rw [h1]; rfl)]; exact h3, h4⟩
def nilS : Value := .slice none 0 0
def zOf (V : Int → List ByteArray) : Int → Bool := fun z => !(V z).isEmpty
/-- A member in memory: its box m, what lasts in block g, the map bp of what is pending; S holds all its blocks. -/
structure PBox (w : World) (S : Nat → Prop) (m g bp cap : Nat) (fd : Bool) (L : List ByteArray) (V : Int → List ByteArray) (F : Int → Value) : Prop where
  b : w.heap[m]? = some (.cells #[.bool fd, .slice (some ⟨g, 0, none⟩) L.length cap, .map (some bp)] 130 (0, 0))
  l : OwnE EC w 0 132 (.slice (some ⟨g, 0, none⟩) L.length cap) L
  p : MapZ w Tryz.prog 3 bp L.length (zOf V) F nilS
  r : ∀ z, In64 z → OwnE EC w 0 132 (F z) (V z)
  sm : S m
  sg : S g
  sp : S bp
  sr : ∀ z, In64 z → ∀ k, (F z).ownBlock = some k → S k ∧ k ≠ m ∧ k ≠ g ∧ k ≠ bp
  ap : ∀ y z, In64 y → In64 z → y ≠ z → Apart (F y) (F z)
  mg : m ≠ g
  mp : m ≠ bp
  gp : g ≠ bp
  lt : ∀ k, S k → k < w.heap.size
  keys : ∀ z, In64 z → V z ≠ [] → 0 ≤ z ∧ z < (L.length : Int)
  n1 : 1 ≤ L.length
  n2 : L.length ≤ 256
  zl : ∀ s ∈ L, s.size = 128
  zv : ∀ z, ∀ s ∈ V z, s.size = 128
theorem cell_of_heap {w w' : World} {b : Nat} (h : w'.heap[b]? = w.heap[b]?) (o : Nat) : w'.cell? ⟨b, o, none⟩ = w.cell? ⟨b, o, none⟩ := by simp only [World.cell?, h]
section
variable {w w' : World} {S : Nat → Prop} {m g bp cap : Nat} {fd : Bool} {L : List ByteArray} {V : Int → List ByteArray} {F : Int → Value}
theorem PBox.heap (h : PBox w S m g bp cap fd L V F) (e : ∀ k, S k → w'.heap[k]? = w.heap[k]?) (hs : w.heap.size ≤ w'.heap.size) : PBox w' S m g bp cap fd L V F :=
  ⟨(e m h.sm).trans h.b, h.l.sameAt fun k hk => by injection hk with hk; subst hk; exact e _ h.sg, h.p.heap (e bp h.sp), fun z hz => (h.r z hz).sameAt fun k hk => e k (h.sr z hz k hk).1, h.sm, h.sg, h.sp, h.sr, h.ap, h.mg, h.mp, h.gp,
    fun k hk => Nat.lt_of_lt_of_le (h.lt k hk) hs, h.keys, h.n1, h.n2, h.zl, h.zv⟩
theorem PBox.below (h : PBox w S m g bp cap fd L V F) (hb : Below w.heap.size w w') : PBox w' S m g bp cap fd L V F := h.heap (fun k hk => hb.block k (h.lt k hk)) hb.size
theorem PBox.c0 (h : PBox w S m g bp cap fd L V F) : w.cell? ⟨m, 0, none⟩ = some (.bool fd) := by simp [World.cell?, h.b]
theorem PBox.c1 (h : PBox w S m g bp cap fd L V F) : w.cell? ⟨m, 1, none⟩ = some (.slice (some ⟨g, 0, none⟩) L.length cap) := by simp [World.cell?, h.b]
theorem PBox.c2 (h : PBox w S m g bp cap fd L V F) : w.cell? ⟨m, 2, none⟩ = some (.map (some bp)) := by simp [World.cell?, h.b]
theorem PBox.f (h : PBox w S m g bp cap fd L V F) (o : Nat) : w.frozen? ⟨m, o, none⟩ = false := by simp [World.frozen?, h.b]
theorem zero_slice : ∀ w, (zeroValue 127).run Tryz.prog w = .ok nilS w := Tryz.zeroValue127
theorem PBox.look (h : PBox w S m g bp cap fd L V F) {z : Int} (hz : In64 z) : (Instr.lookup 128 (.map (some bp)) (.int .i64 z) false).run Tryz.prog w = .ok (F z) w :=
  h.p.look Tryz.underlying3 Tryz.underlying128 zero_slice hz
theorem PBox.loadL (h : PBox w S m g bp cap fd L V F) {i : Nat} (hi : i < L.length) : (Instr.loadAt 132 (.pointer (some ⟨g, i * 128, none⟩))).run Tryz.prog w = .ok (.agg (contL L[i]).toArray) w :=
  cont_load _ fun j hj => h.l.cell hi hj
theorem row_load {v : Value} {l : List ByteArray} {gg n c : Nat} (h : OwnE EC w 0 132 (.slice (some ⟨gg, 0, none⟩) n c) l) {i : Nat} (hi : i < l.length) : (Instr.loadAt 132 (.pointer (some ⟨gg, i * 128, none⟩))).run Tryz.prog w = .ok (.agg (contL l[i]).toArray) w :=
  cont_load _ fun j hj => h.cell hi hj
end
def hasN (L : List ByteArray) (n : Int) : Bool := decide (0 ≤ n) && decide (n < (L.length : Int))
theorem has_any {w : World} {S : Nat → Prop} {m g bp cap : Nat} {fd : Bool} {L : List ByteArray} {V : Int → List ByteArray} {F : Int → Value} (h : PBox w S m g bp cap fd L V F) (n : Int) :
    Calls Tryz.prog 92 #[.pointer (some ⟨m, 0, none⟩), .int .i64 n] w fun e w' => e = .returned (.bool (hasN L n)) ∧ w = w' := by
  have c1 := h.c1
  clear h
  unfold hasN
  by_cases h0 : 0 ≤ n
  · have t1 : decide (0 ≤ n) = true := decide_eq_true h0
    clear h0
    rw [t1, Bool.true_and]
    go_enter Tryz.func92, Tryz.ntmps92
    go_wp2
    go_ret
    exact ⟨rfl, rfl⟩
  · have t1 : decide (0 ≤ n) = false := decide_eq_false h0
    clear h0
    rw [t1, Bool.false_and]
    go_enter Tryz.func92, Tryz.ntmps92
    go_wp2
    go_ret
    exact ⟨rfl, rfl⟩
theorem size_any {w : World} {S : Nat → Prop} {m g bp cap : Nat} {fd : Bool} {L : List ByteArray} {V : Int → List ByteArray} {F : Int → Value} (h : PBox w S m g bp cap fd L V F) :
    Calls Tryz.prog 107 #[.pointer (some ⟨m, 0, none⟩)] w fun e w' => e = .returned (.int .i64 (L.length : Int)) ∧ w = w' := by
  have c1 := h.c1
  clear h
  go_enter Tryz.func107, Tryz.ntmps107
  go_wp2
  go_ret
  exact ⟨rfl, rfl⟩
theorem vers_any {w : World} {S : Nat → Prop} {m g bp cap : Nat} {fd : Bool} {L : List ByteArray} {V : Int → List ByteArray} {F : Int → Value} (h : PBox w S m g bp cap fd L V F) (n : Int) (hn : In64 n) :
    Calls Tryz.prog 93 #[.pointer (some ⟨m, 0, none⟩), .int .i64 n] w fun e w' => e = .returned (.int .i64 ((V n).length : Int)) ∧ w = w' := by
  have c2 := h.c2
  have hl := h.look hn
  have hr := (h.r n hn).reads
  have hlen := fun W => hr.len_run (P := Tryz.prog) Tryz.underlying127 3 W
  clear h hr
  generalize F n = v at *
  go_enter Tryz.func93, Tryz.ntmps93
  go_wp2
  go_ret
  exact ⟨rfl, rfl⟩
end Go.Proofs.YtfadglcpapiklaaGreatDoor
end
section
namespace Go.Proofs.YtfadglcpapiklaaGreatDoor
open Go.RowKit
set_option linter.unusedVariables false
set_option linter.unusedSimpArgs false

theorem in64_nat (i : Nat) (h : i ≤ 9223372036854775807) : In64 (i : Int) := by
  have h1 : IntKind.i64.min = -9223372036854775808 := by decide
  have h2 : IntKind.i64.max = 9223372036854775807 := by decide
  unfold In64; simp [Lit.wf, h1, h2]; omega
/-- A load whose run is known. -/
theorem wpList_load_run {P : Program} {w : World} {ops : Array Oper} {rest : List Oper} {o : Oper} {a : Act} {Q : Exit → Act → World → Prop} {ty : TypeId} {p v : Value}
    (hr : (Instr.loadAt ty p).run P w = .ok v w) (hg : o.guard = none) (x : Operand) (hop : o.op = .load ty x) (hx : a.eval x = p) (h : wpList P ops Q rest (a.put o.dst v) w) : wpList P ops Q (o :: rest) a w := by
  refine wpList_plain hg fun K' hK' => ?_
  unfold Oper.wp execOp
  simp only [hop, hx, Sem.run_bind, Sem.run_pure, hr, Result.andThen_ok]
  exact hK' _ _ h
/-- What was written last. -/
def lastOf (l : List ByteArray) (d : ByteArray) : ByteArray := l.getLastD d
theorem lastOf_nil (d : ByteArray) : lastOf [] d = d := rfl
theorem lastOf_get (l : List ByteArray) (d : ByteArray) (h : l ≠ []) (h2 : l.length - 1 < l.length) : lastOf l d = l[l.length - 1] := by
  unfold lastOf
  rw [List.getLastD_eq_getLast?, List.getLast?_eq_getElem?, List.getElem?_eq_getElem h2]; rfl
theorem read_dead {w : World} {S : Nat → Prop} {m g bp cap : Nat} {L : List ByteArray} {V : Int → List ByteArray} {F : Int → Value} (h : PBox w S m g bp cap true L V F) (n : Int) :
    Calls Tryz.prog 137 #[.pointer (some ⟨m, 0, none⟩), .int .i64 n] w fun e w' => e = .returned (.tuple #[.string ⟨#[]⟩, .int .i64 80]) ∧ w = w' := by
  have c0 := h.c0
  clear h
  go_enter Tryz.func137, Tryz.ntmps137
  go_wp2
  go_ret2
  exact ⟨rfl, rfl⟩
theorem read_range {w : World} {S : Nat → Prop} {m g bp cap : Nat} {L : List ByteArray} {V : Int → List ByteArray} {F : Int → Value} (h : PBox w S m g bp cap false L V F) (n : Int) (hn : hasN L n = false) :
    Calls Tryz.prog 137 #[.pointer (some ⟨m, 0, none⟩), .int .i64 n] w fun e w' => e = .returned (.tuple #[.string ⟨#[]⟩, .int .i64 81]) ∧ w = w' := by
  have c0 := h.c0
  have ch := has_any h n
  rw [hn] at ch
  clear h
  go_enter Tryz.func137, Tryz.ntmps137
  go_wp2_with (fail)
  refine ch.mono ?_
  rintro e w' ⟨rfl, rfl⟩
  go_wp2
  go_ret2
  exact ⟨rfl, rfl⟩
def GivesR (w : World) (s : ByteArray) (q : Int) (e : Ending) (w' : World) : Prop := e = .returned (.tuple #[.string s, .int .i64 q]) ∧ Below w.heap.size w w'
set_option maxRecDepth 100000 in
set_option maxHeartbeats 1000000 in
theorem read_any {w : World} {S : Nat → Prop} {m g bp cap : Nat} {L : List ByteArray} {V : Int → List ByteArray} {F : Int → Value} (h : PBox w S m g bp cap false L V F) (i : Nat) (hi : i < L.length) (hvn : (V i).length ≤ 4611686018427387904) :
    Calls Tryz.prog 137 #[.pointer (some ⟨m, 0, none⟩), .int .i64 (i : Int)] w (GivesR w (lastOf (V i) L[i]) 0) := by
  have hn2 := h.n2
  have hI := in64_nat i (by omega)
  have hh : hasN L i = true := by unfold hasN; rw [decide_eq_true (by omega), decide_eq_true (by omega)]; rfl
  have c0 := h.c0
  have c1 := h.c1
  have ch := has_any h i
  rw [hh] at ch
  have hld := h.loadL hi
  have hz := (zero_of_info cont_zs).1
  have hst : ∀ s t, (storeCells ⟨w.heap.size, 0, none⟩ (contL t).toArray.toList 0).run Tryz.prog (w.alloc (.cells (contL s).toArray 132)) = .ok () (w.alloc (.cells (contL t).toArray 132)) :=
    fun s t => run_storeCells_new (P := Tryz.prog) w 132 (contL s).toArray (contL t).toArray (cont_isa t) (by rw [cont_size, cont_size]) (cont_one t)
  have hs0 := hst zero128 L[i]
  have hB : ∀ s, PBox (w.alloc (.cells (contL s).toArray 132)) S m g bp cap false L V F := fun s => h.below ((Below.refl _ _).alloc (Nat.le_refl _) _)
  have hB0 := hB L[i]
  have c2 := hB0.c2
  have hlk := hB0.look hI
  have hrow := hB0.r i hI
  have hsl : ∀ W : World, (Instr.sliceAt 132 (.pointer (some ⟨w.heap.size, 0, none⟩)) none none none).run Tryz.prog W = .ok (.slice (some ⟨w.heap.size, 0, none⟩) 128 128) W := fun W => by
    simp [Instr.sliceAt, Instr.slice, Instr.sureAddr, run_underlying cont_under, Instr.sliceBounds, Instr.sliceBound, asIntOf, asAddr]
    exact addr_at _ _ _
  have hstr : ∀ s : ByteArray, s.size = 128 → (convert 113 9 (.slice (some ⟨w.heap.size, 0, none⟩) 128 128)).run Tryz.prog (w.alloc (.cells (contL s).toArray 132)) = .ok (.string s) (w.alloc (.cells (contL s).toArray 132)) := fun s hs =>
    cont_str s hs fun j hj => by rw [World.cell?_alloc_mark]; simp
  have hB1 : ∀ s, Below w.heap.size w (w.alloc (.cells (contL s).toArray 132)) := fun s => (Below.refl _ _).alloc (Nat.le_refl _) _
  have hlt : ((i : Nat) : Int) < (L.length : Int) := by omega
  have hsz := h.zl L[i] (List.getElem_mem hi)
  by_cases hv : V i = []
  · have hf := hrow
    rw [hv] at hf
    have hlen : ∀ W, (Builtin.len_ #[127] 3 #[F i]).run Tryz.prog W = .ok (.int .i64 0) W := fun W => hf.reads.len_run (P := Tryz.prog) Tryz.underlying127 3 W
    have hstr0 := hstr _ hsz
    have hB10 := hB1 L[i]
    rw [hv, lastOf_nil]
    have hcl := contL_len L[i]
    clear hf hv hrow hstr hsz hst h hB hB0 hn2 hI hh hB1
    generalize contL zero128 = z0 at *
    generalize L[i] = s at *
    generalize F i = v at *
    generalize contL s = cs at *
    go_enter Tryz.func137, Tryz.ntmps137
    go_wp2_with (fail)
    refine ch.mono ?_
    rintro e w' ⟨rfl, rfl⟩
    go_wp2_with (with_reducible refine wpList_load_run hld rfl _ rfl rfl ?_)
    go_ret2
    exact ⟨rfl, hB10⟩
  · obtain ⟨k, hk⟩ : ∃ k, (V i).length = k + 1 := ⟨(V i).length - 1, by have := List.length_pos_iff.2 hv; omega⟩
    have hkl : k < (V i).length := by omega
    obtain ⟨gg, cv, hF, _, _⟩ := hrow.form (by omega)
    rw [hF] at hrow hlk
    have hlen : ∀ W, (Builtin.len_ #[127] 3 #[.slice (some ⟨gg, 0, none⟩) (k + 1) cv]).run Tryz.prog W = .ok (.int .i64 ((k : Int) + 1)) W := fun W => by
      have := hrow.reads.len_run (P := Tryz.prog) Tryz.underlying127 3 W
      rw [hk] at this
      exact this
    have hld2 := row_load (v := F i) hrow hkl
    have hs1 := hst L[i] (V i)[k]
    have hcl := contL_len L[i]
    have hcl2 := contL_len (V i)[k]
    have hlast : lastOf (V i) L[i] = (V i)[k] := by
      rw [lastOf_get _ _ hv (by omega)]
      congr 1; omega
    have hstr0 := hstr _ (h.zv i _ (List.getElem_mem hkl))
    have hB10 := hB1 (V i)[k]
    rw [hlast]
    rw [hk] at hlk
    clear hlast hv hrow hstr hsz hst h hB hB0 hn2 hI hh hB1 hF
    generalize contL zero128 = z0 at *
    generalize (V i)[k] = t at *
    generalize L[i] = s at *
    generalize contL s = cs at *
    generalize contL t = ct at *
    have hkb : (k : Int) ≤ 4611686018427387904 := by omega
    have hgt : (0 : Int) < (k : Int) + 1 := by omega
    clear hvn hkl hk
    go_enter Tryz.func137, Tryz.ntmps137
    go_wp2_with (fail)
    refine ch.mono ?_
    rintro e w' ⟨rfl, rfl⟩
    go_wp2_with (first | (with_reducible refine wpList_load_run hld rfl _ rfl rfl ?_) | (with_reducible refine wpList_load_run hld2 rfl _ rfl rfl ?_))
    go_ret2
    exact ⟨rfl, hB10⟩
end Go.Proofs.YtfadglcpapiklaaGreatDoor
end
section
namespace Go.Proofs.YtfadglcpapiklaaGreatDoor
open Go.RowKit
set_option linter.unusedVariables false
set_option linter.unusedSimpArgs false

theorem fold_set : ∀ (l : List Value) (k : Nat) (cs : Array Value) (j : Nat), ((l.zipIdx k).foldl (fun (cs : Array Value) (p : Value × Nat) => cs.setIfInBounds (0 + p.2) p.1) cs)[j]? = if k ≤ j ∧ j < k + l.length ∧ j < cs.size then l[j - k]? else cs[j]?
  | [], k, cs, j => by
    rw [if_neg (by show ¬ (k ≤ j ∧ j < k + 0 ∧ j < cs.size); omega)]; rfl
  | a :: l, k, cs, j => by
    rw [List.zipIdx_cons, List.foldl_cons, fold_set l (k + 1)]
    simp only [Array.size_setIfInBounds, List.length_cons, Nat.zero_add]
    by_cases h : k + 1 ≤ j ∧ j < k + 1 + l.length ∧ j < cs.size
    · rw [if_pos h, if_pos (by omega), show j - k = (j - (k + 1)) + 1 by omega, List.getElem?_cons_succ]
    · rw [if_neg h, Array.getElem?_setIfInBounds]
      by_cases e : k = j
      · subst e
        by_cases h2 : k < cs.size
        · rw [if_pos rfl, if_pos h2, if_pos (by omega)]; simp
        · rw [if_pos rfl, if_neg h2, if_neg (by omega), Array.getElem?_eq_none (by omega)]
      · rw [if_neg e, if_neg (by omega)]
theorem fill_one (cs Z : Array Value) (hZ : Z.size = cs.size) : Instr.fill (fun j => some (j * cs.size, cs.size)) Z [(0, .agg cs)] = some cs := by
  have hc : (Value.agg cs).cells = cs := rfl
  unfold Instr.fill
  simp only [hc, Nat.zero_mul, Nat.zero_add, ne_eq, not_true_eq_false, decide_false, Bool.false_or]
  rw [if_neg (by simp; omega)]
  unfold Instr.fill
  congr 1
  apply Array.ext_getElem?
  intro j
  have := fold_set cs.toList 0 Z j
  rw [← Array.foldl_toList, Array.toList_zipIdx]
  simp only [Nat.zero_add] at this
  rw [this]
  by_cases h : j < cs.size
  · rw [if_pos (by simp; omega)]; simp
  · rw [if_neg (by simp; omega), Array.getElem?_eq_none (by omega), Array.getElem?_eq_none (by omega)]
/-- A slice of one element of many cells. -/
theorem build_one {P : Program} {S T : TypeId} {i : TypeInfo} {z : Value} (hT : P.underlying S = some (.slice T)) (hi : P.info? T = some i) (hz : i.zero = some z) (cs : Array Value) (hs : i.size = cs.size) (hzs : z.cells.size = cs.size) (h0 : 0 < cs.size) (hb : cs.size ≤ 16777216) (w : World) :
    (Instr.buildSlice S 1 #[(0, .agg cs)]).run P w = .ok (.slice (some ⟨w.heap.size, 0, none⟩) 1 1) (w.alloc (.cells cs T)) := by
  have hf := fill_one cs ((Array.range cs.size).map (fun j => z.cells[j % z.cells.size]!)) (by simp)
  have hn : ¬ cs.size = 0 := by omega
  have hl : ¬ (16777216 < cs.size) := by omega
  simp [Instr.buildSlice, run_underlying hT, sizeOf, typeInfo, hi, hs, hl, hn, zeroValue, hz, newRow, hf]
section
variable {P : Program} {ops : Array Oper} {o : Oper} {a : Act} {w w' : World} {K : Act → World → Prop} {Q : Exit → Act → World → Prop} {E : Prop}
theorem wpAnyH_takeD {md : Region.Mode} {Q : Exit → Act → World → Prop} {S : World → Prop} {i : Nat} {oi : Oper} {v : Value} {fuel : Nat} {listed : Array Bool} (d : Option Tmp) (hi : ops[i]? = some oi)
    (hs : Region.noSelect ops = true) (hf : Region.free md ops listed i = true) (hr : (Region.ready md ops listed).contains i = true) (hd : oi.dst = d)
    (hQ : ∀ c a w, Q (.panic c) (a.put oi.dst v) w → Q (.panic c) a w) (hy : YieldsIf P ops S oi v a) (hS : S w)
    (h : wpAnyH P md ops Q S fuel (listed.setIfInBounds i true) (a.put d v) w) : wpAnyH P md ops Q S (fuel + 1) listed a w := by
  subst hd
  exact wpAnyH_take hi hs hf hr hQ hy hS h
theorem step_load_run {ty : TypeId} {p v : Value} (hr : (Instr.loadAt ty p).run P w = .ok v w) (x : Operand) (hg : o.guard = none) (hop : o.op = .load ty x) (hx : a.eval x = p) {d : Option Tmp} (hd : o.dst = d) (hK : K (a.put d v) w) :
    if Region.wanted o (yielded ops a.tmps) = true then Oper.wp P o a w K Q else E := by
  have hw : Region.wanted o (yielded ops a.tmps) = true := by simp [Region.wanted, hg]
  rw [if_pos hw]
  subst hd
  unfold Oper.wp execOp
  simp only [hop, hx, Sem.run_bind, Sem.run_pure, hr, Result.andThen_ok]
  exact hK
theorem step_build_run {S : TypeId} {u v : Value} (hr : (Instr.buildSlice S 1 #[(0, u)]).run P w = .ok v w') (x : Operand) (hg : o.guard = none) (hop : o.op = .buildSlice S 1 #[(0, x)]) (hx : a.eval x = u) {d : Option Tmp} (hd : o.dst = d) (hK : K (a.put d v) w') :
    if Region.wanted o (yielded ops a.tmps) = true then Oper.wp P o a w K Q else E := by
  have hw : Region.wanted o (yielded ops a.tmps) = true := by simp [Region.wanted, hg]
  rw [if_pos hw]
  subst hd
  unfold Oper.wp
  simp [execOp, hop, hx, hr, Result.andThen]
  exact hK
theorem step_append_run {t ty : TypeId} {v xv v' : Value}
    (hr : (Builtin.append_ #[t, t] ty #[v, xv]).run P w = .ok v' w') (s x : Operand) (hg : o.guard = none) (hop : o.op = Op.call { callee := Callee.builtin Builtin.append, args := #[s, x], argTypes := #[t, t] })
    (hty : o.type = ty) (hs : a.eval s = v) (hx : a.eval x = xv) {d : Option Tmp} (hd : o.dst = d) (hK : K (a.put d v') w') : if Region.wanted o (yielded ops a.tmps) = true then Oper.wp P o a w K Q else E := by
  have hw : Region.wanted o (yielded ops a.tmps) = true := by simp [Region.wanted, hg]
  rw [if_pos hw]
  subst hd
  subst hty
  unfold Oper.wp
  simp [execOp, hop, resolve, invoke, builtin, hs, hx, hr, Result.andThen]
  exact hK
theorem step_lookup_run {t : TypeId} {mv kv v : Value} (hr : (Instr.lookup t mv kv false).run P w = .ok v w) (m x : Operand) (hg : o.guard = none) (hop : o.op = .lookup t m x false) (hm : a.eval m = mv) (hx : a.eval x = kv) {d : Option Tmp} (hd : o.dst = d) (hK : K (a.put d v) w) :
    if Region.wanted o (yielded ops a.tmps) = true then Oper.wp P o a w K Q else E := by
  have hw : Region.wanted o (yielded ops a.tmps) = true := by simp [Region.wanted, hg]
  rw [if_pos hw]
  subst hd
  unfold Oper.wp
  simp [execOp, hop, hm, hx, hr, Result.andThen]
  exact hK
theorem step_convert_run {t t' : TypeId} {u v : Value} (hr : (convert t t' u).run P w = .ok v w') (x : Operand) (hg : o.guard = none) (hop : o.op = .convert t t' x) (hx : a.eval x = u) {d : Option Tmp} (hd : o.dst = d) (hK : K (a.put d v) w') :
    if Region.wanted o (yielded ops a.tmps) = true then Oper.wp P o a w K Q else E := by
  have hw : Region.wanted o (yielded ops a.tmps) = true := by simp [Region.wanted, hg]
  rw [if_pos hw]
  subst hd
  unfold Oper.wp
  simp [execOp, hop, hx, hr, Result.andThen]
  exact hK
theorem step_array_run {t : TypeId} {u v : Value} (hr : (Instr.arrayAt t u).run P w = .ok v w) (x : Operand) (hg : o.guard = none) (hop : o.op = .sliceToArrayPointer t x) (hx : a.eval x = u) {d : Option Tmp} (hd : o.dst = d) (hK : K (a.put d v) w) :
    if Region.wanted o (yielded ops a.tmps) = true then Oper.wp P o a w K Q else E := by
  have hw : Region.wanted o (yielded ops a.tmps) = true := by simp [Region.wanted, hg]
  rw [if_pos hw]
  subst hd
  unfold Oper.wp
  simp [execOp, hop, hx, hr, Result.andThen]
  exact hK
theorem step_update_run {t : TypeId} {mv kv v : Value} (hr : (Instr.mapUpdate t mv kv v).run P w = .ok () w') (m x y : Operand) (hg : o.guard = none) (hop : o.op = .mapUpdate t m x y) (hm : a.eval m = mv) (hx : a.eval x = kv) (hy : a.eval y = v) {d : Option Tmp} (hd : o.dst = d) (hK : K (a.put d undef) w') :
    if Region.wanted o (yielded ops a.tmps) = true then Oper.wp P o a w K Q else E := by
  have hw : Region.wanted o (yielded ops a.tmps) = true := by simp [Region.wanted, hg]
  rw [if_pos hw]
  subst hd
  unfold Oper.wp
  simp [execOp, hop, hm, hx, hy, hr, Result.andThen]
  exact hK
end
end Go.Proofs.YtfadglcpapiklaaGreatDoor
end
section
namespace Go.Proofs.YtfadglcpapiklaaGreatDoor
open Go.RowKit
set_option linter.unusedVariables false
set_option linter.unusedSimpArgs false

/-- Only blocks of S were turned; S' holds no other of the elder ones. -/
structure Stp (S S' : Nat → Prop) (w w' : World) : Prop where
  b0 : Below 0 w w'
  oth : ∀ k, k < w.heap.size → ¬ S k → w'.heap[k]? = w.heap[k]?
  grow : ∀ k, S' k → S k ∨ w.heap.size ≤ k
theorem Stp.below {S S' : Nat → Prop} {w w' : World} (h : Stp S S' w w') {B : Nat} (hS : ∀ k, S k → B ≤ k) (hB : B ≤ w.heap.size) : Below B w w' :=
  ⟨h.b0.os, h.b0.tape, h.b0.output, h.b0.size, fun k hk => h.oth k (by omega) (fun hs => by have := hS k hs; omega)⟩
theorem Stp.refl (S : Nat → Prop) (w : World) : Stp S S w w := ⟨Below.refl _ _, fun _ _ _ => rfl, fun k h => .inl h⟩
theorem Stp.trans {S S' S'' : Nat → Prop} {w w1 w2 : World} (h : Stp S S' w w1) (k : Stp S' S'' w1 w2) : Stp S S'' w w2 :=
  ⟨h.b0.trans k.b0, fun i hi hn => (k.oth i (Nat.lt_of_lt_of_le hi h.b0.size) (fun hs => by rcases h.grow i hs with h1 | h1; exact hn h1; omega)).trans (h.oth i hi hn),
   fun i hi => by
    rcases k.grow i hi with h1 | h1
    · exact h.grow i h1
    · exact .inr (Nat.le_trans h.b0.size h1)⟩
theorem Stp.quiet {S : Nat → Prop} {w w' : World} (h : Below w.heap.size w w') : Stp S S w w' := ⟨h.mono (Nat.zero_le _), fun k hk _ => h.block k hk, fun k h => .inl h⟩
/-- What is apart stays. -/
theorem PBox.apart {w w' : World} {S T T' : Nat → Prop} {m g bp cap : Nat} {fd : Bool} {L : List ByteArray} {V : Int → List ByteArray} {F : Int → Value} (h : PBox w S m g bp cap fd L V F) (k : Stp T T' w w') (hd : ∀ i, S i → ¬ T i) : PBox w' S m g bp cap fd L V F :=
  h.heap (fun i hi => k.oth i (h.lt i hi) (hd i hi)) k.b0.size
theorem PBox.drew {w : World} {S : Nat → Prop} {m g bp cap : Nat} {fd : Bool} {L : List ByteArray} {V : Int → List ByteArray} {F : Int → Value} (h : PBox w S m g bp cap fd L V F) : PBox w.drew S m g bp cap fd L V F := h.heap (fun _ _ => rfl) (Nat.le_refl _)
/-- What a write makes of a member. -/
theorem PBox.grown {w w1 w3 w4 : World} {S : Nat → Prop} {m g bp cap : Nat} {L : List ByteArray} {V : Int → List ByteArray} {F : Int → Value} (h : PBox w S m g bp cap false L V F) (i : Nat) (hi : i < L.length) (s : ByteArray) (hs : s.size = 128) (v' : Value)
    (b1 : Below w.heap.size w w1) (ho : OwnE EC w3 0 132 v' (V i ++ [s])) (b3 : Below 0 w1 w3) (hk : KeptBut (F i) w1 w3) (hv : v'.ownBlock = (F i).ownBlock ∨ v'.ownBlock = some (w1.heap.size + 1))
    (hm : MapZ w4 Tryz.prog 3 bp (L.length + 1) (updZ (zOf V) i true) (updZ F i v') nilS) (ht : w3.mapTurned w4 bp) :
    ∃ S', Stp S S' w w4 ∧ PBox w4 S' m g bp cap false L (updZ V i (V i ++ [s])) (updZ F i v') := by
  have hI := in64_nat i (by have := h.n2; omega)
  have hg := ht.grown
  have hFi := h.sr i hI
  have hlt := h.lt
  have keep4 : ∀ k, k < w.heap.size → k ≠ bp → (F i).ownBlock ≠ some k → w4.heap[k]? = w.heap[k]? := fun k h1 h2 h3 =>
    (hg.block k (by have := b1.size; have := b3.size; omega) (by simpa using h2)).trans ((hk k (by have := b1.size; omega) h3).trans (b1.block k h1))
  have hsz : w.heap.size ≤ w4.heap.size := by have := b1.size; have := b3.size; have := hg.size; omega
  have hvb : ∀ k, v'.ownBlock = some k → (F i).ownBlock = some k ∨ w.heap.size ≤ k := fun k hk' => by
    rcases hv with e | e
    · exact .inl (e ▸ hk')
    · rw [e] at hk'; injection hk' with hk'; right; have := b1.size; omega
  have hv4 : ∀ k, v'.ownBlock = some k → k < w4.heap.size := fun k hk' => by have := (ho.lt k hk').2; have := hg.size; omega
  have nb : ∀ k, (F i).ownBlock = some k → k ≠ bp := fun k hk' => (hFi k hk').2.2.2
  refine ⟨fun k => S k ∨ (w.heap.size ≤ k ∧ k < w4.heap.size), ⟨⟨?_, ?_, ?_, hsz, fun k hk => absurd hk (Nat.not_lt_zero _)⟩, fun k h1 h2 => keep4 k h1 (fun e => h2 (e ▸ h.sp)) (fun e => h2 (hFi k e).1), fun k hk => hk.imp id And.left⟩,
    ⟨?_, ?_, ?_, ?_, .inl h.sm, .inl h.sg, .inl h.sp, ?_, ?_, h.mg, h.mp, h.gp, ?_, ?_, h.n1, h.n2, h.zl, ?_⟩⟩
  · exact hg.os.trans (b3.os.trans b1.os)
  · exact hg.tape.trans (b3.tape.trans b1.tape)
  · exact hg.output.trans (b3.output.trans b1.output)
  · rw [keep4 m (hlt m h.sm) h.mp (fun e => (hFi m e).2.1 rfl)]; exact h.b
  · refine h.l.sameAt fun k hk => ?_
    injection hk with hk; subst hk
    exact keep4 _ (hlt g h.sg) h.gp (fun e => (hFi g e).2.2.1 rfl)
  · refine (?_ : MapZ w4 Tryz.prog 3 bp (L.length + 1) (zOf (updZ V i (V i ++ [s]))) (updZ F i v') nilS).tight Tryz.underlying3 L.length fun z hz hz2 => ?_
    · have e : zOf (updZ V i (V i ++ [s])) = updZ (zOf V) i true := by
        funext z
        unfold zOf updZ
        by_cases e : z = (i : Int)
        · rw [if_pos e, if_pos e]; simp
        · rw [if_neg e, if_neg e]
      rw [e]; exact hm
    · unfold zOf updZ at hz2
      by_cases e : z = (i : Int)
      · subst e; omega
      · rw [if_neg e] at hz2
        exact h.keys z hz (fun e2 => by rw [e2] at hz2; simp at hz2)
  · intro z hz
    by_cases e : z = (i : Int)
    · subst e
      rw [updZ_same, updZ_same]
      exact ho.sameAt fun k hk => hg.block k (ho.lt k hk).2 (by
        intro e; injection e with e; subst e
        rcases hvb k hk with h1 | h1
        · exact nb k h1 rfl
        · have := hlt k h.sp; omega)
    · rw [updZ_other _ _ _ _ e, updZ_other _ _ _ _ e]
      exact (h.r z hz).sameAt fun k hk => keep4 k (hlt k (h.sr z hz k hk).1) (h.sr z hz k hk).2.2.2 (fun e2 => h.ap z i hz hI e k hk e2)
  · intro z hz k hk
    by_cases e : z = (i : Int)
    · subst e
      rw [updZ_same] at hk
      have h4 := hv4 k hk
      rcases hvb k hk with h1 | h1
      · exact ⟨.inl (hFi k h1).1, (hFi k h1).2⟩
      · have := hlt m h.sm; have := hlt g h.sg; have := hlt bp h.sp
        exact ⟨.inr ⟨h1, h4⟩, by omega, by omega, by omega⟩
    · rw [updZ_other _ _ _ _ e] at hk
      have := h.sr z hz k hk
      exact ⟨.inl this.1, this.2⟩
  · intro y z hy hz hne k hk
    by_cases e : y = (i : Int)
    · subst e
      rw [updZ_same] at hk
      rw [updZ_other _ _ _ _ (Ne.symm hne)]
      rcases hvb k hk with h1 | h1
      · exact h.ap _ z hy hz hne k h1
      · intro e2
        have := hlt k (h.sr z hz k e2).1; omega
    · rw [updZ_other _ _ _ _ e] at hk
      by_cases e2 : z = (i : Int)
      · subst e2
        rw [updZ_same]
        intro e3
        rcases hvb k e3 with h1 | h1
        · exact h.ap y _ hy hz hne k hk h1
        · have := hlt k (h.sr y hy k hk).1; omega
      · rw [updZ_other _ _ _ _ e2]
        exact h.ap y z hy hz hne k hk
  · intro k hk
    rcases hk with h1 | h1
    · exact Nat.lt_of_lt_of_le (hlt k h1) hsz
    · exact h1.2
  · intro z hz hz2
    by_cases e : z = (i : Int)
    · subst e; omega
    · rw [updZ_other _ _ _ _ e] at hz2
      exact h.keys z hz hz2
  · intro z t ht
    by_cases e : z = (i : Int)
    · rw [e, updZ_same] at ht
      rcases List.mem_append.1 ht with h1 | h1
      · exact h.zv _ t h1
      · rw [List.mem_singleton.1 h1]; exact hs
    · rw [updZ_other _ _ _ _ e] at ht
      exact h.zv z t ht
theorem write_dead {w : World} {S : Nat → Prop} {m g bp cap : Nat} {L : List ByteArray} {V : Int → List ByteArray} {F : Int → Value} (h : PBox w S m g bp cap true L V F) (n : Int) (s : ByteArray) :
    Calls Tryz.prog 71 #[.pointer (some ⟨m, 0, none⟩), .int .i64 n, .string s] w fun e w' => e = .returned (.int .i64 80) ∧ w = w' := by
  have c0 := h.c0
  clear h
  go_enter Tryz.func71, Tryz.ntmps71
  go_wp2
  go_ret
  exact ⟨rfl, rfl⟩
theorem write_range {w : World} {S : Nat → Prop} {m g bp cap : Nat} {L : List ByteArray} {V : Int → List ByteArray} {F : Int → Value} (h : PBox w S m g bp cap false L V F) (n : Int) (s : ByteArray) (hn : hasN L n = false ∨ s.size ≠ 128) :
    Calls Tryz.prog 71 #[.pointer (some ⟨m, 0, none⟩), .int .i64 n, .string s] w fun e w' => e = .returned (.int .i64 81) ∧ w = w' := by
  have c0 := h.c0
  have ch := has_any h n
  by_cases h1 : hasN L n = false
  · rw [h1] at ch
    clear h h1 hn
    go_enter Tryz.func71, Tryz.ntmps71
    go_wp2_with (fail)
    refine ch.mono ?_
    rintro e w' ⟨rfl, rfl⟩
    go_wp2
    go_ret
    exact ⟨rfl, rfl⟩
  · rw [Bool.not_eq_false] at h1
    have h2 := hn.resolve_left (by rw [h1]; simp)
    rw [h1] at ch
    have t1 : ((s.size : Int) != 128) = true := by rw [bne_iff_ne]; omega
    have t2 : ((s.size : Int) == 128) = false := by rw [beq_eq_false_iff_ne]; omega
    clear h h1 hn h2
    go_enter Tryz.func71, Tryz.ntmps71
    go_wp2_with (fail)
    refine ch.mono ?_
    rintro e w' ⟨rfl, rfl⟩
    go_wp2
    go_ret
    exact ⟨rfl, rfl⟩
end Go.Proofs.YtfadglcpapiklaaGreatDoor
end
section
namespace Go.Proofs.YtfadglcpapiklaaGreatDoor
open Go.RowKit
set_option linter.unusedVariables false
set_option linter.unusedSimpArgs false

/-- What was written: other blocks stay, and what the member holds is as told. -/
def PutsM (w : World) (S : Nat → Prop) (m g bp cap : Nat) (fd : Bool) (L : List ByteArray) (V : Int → List ByteArray) (u : Value) (e : Ending) (w' : World) : Prop :=
  e = .returned u ∧ ∃ S' F', Stp S S' w w' ∧ PBox w' S' m g bp cap fd L V F'
theorem MRow.content {w : World} {b C : Nat} {s : ByteArray} (h : MRow w b C s.data.toList) (hs : s.size = 128) : (Instr.loadAt 132 (.pointer (some ⟨b, 0, none⟩))).run Tryz.prog w = .ok (.agg (contL s).toArray) w :=
  cont_load s fun j hj => by
    have hl : s.data.toList.length = 128 := by rw [← hs]; exact Array.length_toList
    rw [Nat.zero_add, h.cell (by omega), contL_get s j hj]; rfl
set_option maxRecDepth 100000 in
set_option maxHeartbeats 2000000 in
theorem write_any {w : World} {S : Nat → Prop} {m g bp cap : Nat} {L : List ByteArray} {V : Int → List ByteArray} {F : Int → Value} (h : PBox w S m g bp cap false L V F) (i : Nat) (hi : i < L.length) (s : ByteArray) (hs : s.size = 128) (hvn : (V i).length ≤ 1000000000000) :
    Calls Tryz.prog 71 #[.pointer (some ⟨m, 0, none⟩), .int .i64 (i : Int), .string s] w (PutsM w S m g bp cap false L (updZ V i (V i ++ [s])) (.int .i64 0)) := by
  have hn2 := h.n2
  have hI := in64_nat i (by omega)
  have hh : hasN L i = true := by unfold hasN; rw [decide_eq_true (by omega), decide_eq_true (by omega)]; rfl
  have c0 := h.c0
  have ch := has_any h i
  rw [hh] at ch
  have hd := h.drew
  have c2 := hd.c2
  have hlk := hd.look hI
  obtain ⟨cap0, w1, C, hcv, hM, hb1, hsz1⟩ := MRow.make_run w.drew s
  rw [hs] at hcv
  obtain ⟨g0, hg0⟩ : ∃ g0, w.drew.heap.size = g0 := ⟨_, rfl⟩
  have hg0' : w.heap.size = g0 := hg0
  rw [hg0] at hcv hM
  have h1 := hd.below hb1
  have har : ∀ W, (Instr.arrayAt 132 (.slice (some ⟨g0, 0, none⟩) 128 cap0)).run Tryz.prog W = .ok (.pointer (some ⟨g0, 0, none⟩)) W := fun W => run_arrayAt _ 132 _ 128 _ 128 cap0 cont_under (Nat.le_refl _)
  have hld := hM.content hs
  obtain ⟨ci, k1, k2, k3, k4⟩ := cont_is
  have hcs : (contL s).toArray.size = 128 := cont_size s
  have hbd := build_one (P := Tryz.prog) Tryz.underlying127 k1 k2 (contL s).toArray (by rw [k3, hcs]; rfl) (by show (contL zero128).toArray.size = _; rw [cont_size, hcs]) (by rw [hcs]; omega) (by rw [hcs]; omega) w1
  obtain ⟨v', w3, hap, ho, hb3, hk3, hv3⟩ := (h1.r i hI).push (P := Tryz.prog) (S := 127) Tryz.underlying127 k1 k2 k3 k4 (by show (contL zero128).toArray.size = _; rw [cont_size]; rfl) s (contL s).toArray (by rfl) (Nat.zero_le _) (by omega) (by omega)
  have hm3 : MapZ w3 Tryz.prog 3 bp L.length (zOf V) F nilS := h1.p.heap (hk3 bp (h1.lt bp h1.sp) (fun e => (h1.sr i hI bp e).2.2.2 rfl))
  obtain ⟨w4, hup, hm4, ht4⟩ := hm3.store Tryz.underlying3 (t := 128) Tryz.underlying128 (by unfold maxLen; omega) hI v'
  have hfin := Lib.hid (hd.grown i hi s hs v' hb1 ho hb3 hk3 hv3 hm4 ht4)
  have hS : ∀ W, PBox W S m g bp cap false L V F → W.cell? ⟨m, 2, none⟩ = some (.map (some bp)) ∧ (Instr.lookup 128 (.map (some bp)) (.int .i64 (i : Int)) false).run Tryz.prog W = .ok (F i) W := fun W hW => ⟨hW.c2, hW.look hI⟩
  have s0 := hS _ hd
  have s1 := hS _ h1
  have s2 := hS (w1.alloc (.cells (contL s).toArray 132)) (h1.below ((Below.refl _ _).alloc (Nat.le_refl _) _))
  have s3 : w3.cell? ⟨m, 2, none⟩ = some (.map (some bp)) := by
    rw [← h1.c2]; exact cell_of_heap (hk3 m (h1.lt m h1.sm) (fun e => (h1.sr i hI m e).2.1 rfl)) 2
  have s4 : w4.cell? ⟨m, 2, none⟩ = some (.map (some bp)) := by
    rw [← s3]; exact cell_of_heap (ht4.grown.block m (by have := hb3.size; have := h1.lt m h1.sm; omega) (by have := h1.mp; simpa using this)) 2
  clear hg0 hg0'
  have t1 : ((s.size : Int) != 128) = false := by rw [hs]; rfl
  have t2 : ((s.size : Int) == 128) = true := by rw [hs]; rfl
  clear hS hm3 hm4 ht4 ho hb3 hk3 hv3 k1 k2 k3 k4 hM hb1 hsz1 h1 hd hh hn2 hvn hi hI h hlk c2
  generalize contL s = cs at *
  generalize F i = v at *
  go_enter Tryz.func71, Tryz.ntmps71
  go_wp2_with (fail)
  refine ch.mono ?_
  rintro e w' ⟨rfl, rfl⟩
  go_wp2_with (fail)
  refine wp_region_held_drew (S := fun W => W.cell? ⟨m, 2, none⟩ = some (.map (some bp))) (by kernel_rfl) s0.1 (fun hHeld => ?_)
  refine wpAnyH_takeD (i := 0) (some 20) rfl (by kernel_rfl) (by kernel_rfl) (by kernel_rfl) rfl (fun _ _ _ h => h) (Or.inl ⟨by rfl, by intro w hSw; go_simp; try rfl⟩) (by assumption) ?_
  simp only [Act.put, List.setIfInBounds_toArray, List.set_cons_zero, List.set_cons_succ]
  refine wpAnyH_takeD (i := 1) (some 21) rfl (by kernel_rfl) (by kernel_rfl) (by kernel_rfl) rfl (fun _ _ _ h => h) (Or.inl ⟨by rfl, by intro w hSw; go_simp; try rfl⟩) (by assumption) ?_
  simp only [Act.put, List.setIfInBounds_toArray, List.set_cons_zero, List.set_cons_succ]
  refine wpAnyH_takeD (i := 2) (some 22) rfl (by kernel_rfl) (by kernel_rfl) (by kernel_rfl) rfl (fun _ _ _ h => h) (Or.inl ⟨by rfl, by intro w hSw; go_simp; try rfl⟩) (by assumption) ?_
  simp only [Act.put, List.setIfInBounds_toArray, List.set_cons_zero, List.set_cons_succ]
  refine wpAnyH_takeD (i := 3) (some 23) rfl (by kernel_rfl) (by kernel_rfl) (by kernel_rfl) rfl (fun _ _ _ h => h) (Or.inl ⟨by rfl, by intro w hSw; go_simp; try rfl⟩) (by assumption) ?_
  simp only [Act.put, List.setIfInBounds_toArray, List.set_cons_zero, List.set_cons_succ]
  refine wpAnyH_takeD (i := 4) (some 24) rfl (by kernel_rfl) (by kernel_rfl) (by kernel_rfl) rfl (fun _ _ _ h => h) (Or.inl ⟨by rfl, by intro w hSw; go_simp; try rfl⟩) (by assumption) ?_
  simp only [Act.put, List.setIfInBounds_toArray, List.set_cons_zero, List.set_cons_succ]
  refine wpAnyH_takeD (i := 5) (some 25) rfl (by kernel_rfl) (by kernel_rfl) (by kernel_rfl) rfl (fun _ _ _ h => h) (Or.inl ⟨by rfl, by intro w hSw; go_simp; try rfl⟩) (by assumption) ?_
  simp only [Act.put, List.setIfInBounds_toArray, List.set_cons_zero, List.set_cons_succ]
  refine wpAnyH_takeD (i := 6) (some 26) rfl (by kernel_rfl) (by kernel_rfl) (by kernel_rfl) rfl (fun _ _ _ h => h) (Or.inl ⟨by rfl, by intro w hSw; go_simp; try rfl⟩) (by assumption) ?_
  simp only [Act.put, List.setIfInBounds_toArray, List.set_cons_zero, List.set_cons_succ]
  refine wpAnyH_takeD (i := 7) (some 27) rfl (by kernel_rfl) (by kernel_rfl) (by kernel_rfl) rfl (fun _ _ _ h => h) (Or.inl ⟨by rfl, by intro w hSw; go_simp; try rfl⟩) (by assumption) ?_
  simp only [Act.put, List.setIfInBounds_toArray, List.set_cons_zero, List.set_cons_succ]
  refine wpAnyH_takeD (i := 8) (some 28) rfl (by kernel_rfl) (by kernel_rfl) (by kernel_rfl) rfl (fun _ _ _ h => h) (Or.inl ⟨by rfl, by intro w hSw; go_simp; try rfl⟩) (by assumption) ?_
  simp only [Act.put, List.setIfInBounds_toArray, List.set_cons_zero, List.set_cons_succ]
  refine wpAnyH_takeD (i := 9) (some 29) rfl (by kernel_rfl) (by kernel_rfl) (by kernel_rfl) rfl (fun _ _ _ h => h) (Or.inl ⟨by rfl, by intro w hSw; go_simp; try rfl⟩) (by assumption) ?_
  simp only [Act.put, List.setIfInBounds_toArray, List.set_cons_zero, List.set_cons_succ]
  refine wpAnyH_takeD (i := 11) (some 31) rfl (by kernel_rfl) (by kernel_rfl) (by kernel_rfl) rfl (fun _ _ _ h => h) (Or.inl ⟨by rfl, by intro w hSw; go_simp; try rfl⟩) (by assumption) ?_
  simp only [Act.put, List.setIfInBounds_toArray, List.set_cons_zero, List.set_cons_succ]
  refine wpAnyH_ready (rs := [10, 12]) (by kernel_rfl) (by simp) ?_
  refine AllReadyH.cons rfl (fun K hK => ?_) ?_
  · refine step_lookup_run (d := some 30) s0.2 _ _ rfl rfl rfl rfl rfl ?_
    refine hK.out _ _ s0.1 (fun hHeld => ?_)
    clear hK
    simp only [Act.put, List.setIfInBounds_toArray, List.set_cons_zero, List.set_cons_succ]
    refine wpAnyH_ready (rs := [12]) (by kernel_rfl) (by simp) ?_
    refine AllReadyH.cons rfl (fun K hK => ?_) ?_
    · refine step_convert_run (d := some 32) hcv _ rfl rfl rfl rfl ?_
      refine hK.out _ _ s1.1 (fun hHeld => ?_)
      clear hK
      simp only [Act.put, List.setIfInBounds_toArray, List.set_cons_zero, List.set_cons_succ]
      refine wpAnyH_ready (rs := [13]) (by kernel_rfl) (by simp) ?_
      refine AllReadyH.cons rfl (fun K hK => ?_) ?_
      · refine step_array_run (d := some 33) (har _) _ rfl rfl rfl rfl ?_
        refine hK.out _ _ s1.1 (fun hHeld => ?_)
        clear hK
        simp only [Act.put, List.setIfInBounds_toArray, List.set_cons_zero, List.set_cons_succ]
        refine wpAnyH_ready (rs := [14]) (by kernel_rfl) (by simp) ?_
        refine AllReadyH.cons rfl (fun K hK => ?_) ?_
        · refine step_load_run (d := some 34) hld _ rfl rfl rfl rfl ?_
          refine hK.out _ _ s1.1 (fun hHeld => ?_)
          clear hK
          simp only [Act.put, List.setIfInBounds_toArray, List.set_cons_zero, List.set_cons_succ]
          refine wpAnyH_ready (rs := [15]) (by kernel_rfl) (by simp) ?_
          refine AllReadyH.cons rfl (fun K hK => ?_) ?_
          · refine step_build_run (d := some 35) hbd _ rfl rfl rfl rfl ?_
            refine hK.out _ _ s2.1 (fun hHeld => ?_)
            clear hK
            simp only [Act.put, List.setIfInBounds_toArray, List.set_cons_zero, List.set_cons_succ]
            refine wpAnyH_ready (rs := [16]) (by kernel_rfl) (by simp) ?_
            refine AllReadyH.cons rfl (fun K hK => ?_) ?_
            · refine step_append_run (d := some 36) hap _ _ rfl rfl rfl rfl rfl rfl ?_
              refine hK.out _ _ s3 (fun hHeld => ?_)
              clear hK
              simp only [Act.put, List.setIfInBounds_toArray, List.set_cons_zero, List.set_cons_succ]
              refine wpAnyH_ready (rs := [17]) (by kernel_rfl) (by simp) ?_
              refine AllReadyH.cons rfl (fun K hK => ?_) ?_
              · refine step_update_run (d := none) hup _ _ _ rfl rfl rfl rfl rfl rfl ?_
                refine hK.out _ _ s4 (fun hHeld => ?_)
                clear hK
                simp only [Act.put, List.setIfInBounds_toArray, List.set_cons_zero, List.set_cons_succ]
                refine wpAnyH_done (by kernel_rfl) ?_ _
                go_wp2_with (fail)
                go_ret
                obtain ⟨S', x1, x2⟩ := hfin.out
                exact ⟨rfl, S', _, ⟨⟨x1.b0.os, x1.b0.tape, x1.b0.output, x1.b0.size, x1.b0.block⟩, x1.oth, x1.grow⟩, x2⟩
              exact AllReadyH.nil
            exact AllReadyH.nil
          exact AllReadyH.nil
        exact AllReadyH.nil
      exact AllReadyH.nil
    exact AllReadyH.nil
  refine AllReadyH.cons rfl (fun K hK => ?_) ?_
  · refine step_convert_run (d := some 32) hcv _ rfl rfl rfl rfl ?_
    refine hK.out _ _ s1.1 (fun hHeld => ?_)
    clear hK
    simp only [Act.put, List.setIfInBounds_toArray, List.set_cons_zero, List.set_cons_succ]
    refine wpAnyH_ready (rs := [10, 13]) (by kernel_rfl) (by simp) ?_
    refine AllReadyH.cons rfl (fun K hK => ?_) ?_
    · refine step_lookup_run (d := some 30) s1.2 _ _ rfl rfl rfl rfl rfl ?_
      refine hK.out _ _ s1.1 (fun hHeld => ?_)
      clear hK
      simp only [Act.put, List.setIfInBounds_toArray, List.set_cons_zero, List.set_cons_succ]
      refine wpAnyH_ready (rs := [13]) (by kernel_rfl) (by simp) ?_
      refine AllReadyH.cons rfl (fun K hK => ?_) ?_
      · refine step_array_run (d := some 33) (har _) _ rfl rfl rfl rfl ?_
        refine hK.out _ _ s1.1 (fun hHeld => ?_)
        clear hK
        simp only [Act.put, List.setIfInBounds_toArray, List.set_cons_zero, List.set_cons_succ]
        refine wpAnyH_ready (rs := [14]) (by kernel_rfl) (by simp) ?_
        refine AllReadyH.cons rfl (fun K hK => ?_) ?_
        · refine step_load_run (d := some 34) hld _ rfl rfl rfl rfl ?_
          refine hK.out _ _ s1.1 (fun hHeld => ?_)
          clear hK
          simp only [Act.put, List.setIfInBounds_toArray, List.set_cons_zero, List.set_cons_succ]
          refine wpAnyH_ready (rs := [15]) (by kernel_rfl) (by simp) ?_
          refine AllReadyH.cons rfl (fun K hK => ?_) ?_
          · refine step_build_run (d := some 35) hbd _ rfl rfl rfl rfl ?_
            refine hK.out _ _ s2.1 (fun hHeld => ?_)
            clear hK
            simp only [Act.put, List.setIfInBounds_toArray, List.set_cons_zero, List.set_cons_succ]
            refine wpAnyH_ready (rs := [16]) (by kernel_rfl) (by simp) ?_
            refine AllReadyH.cons rfl (fun K hK => ?_) ?_
            · refine step_append_run (d := some 36) hap _ _ rfl rfl rfl rfl rfl rfl ?_
              refine hK.out _ _ s3 (fun hHeld => ?_)
              clear hK
              simp only [Act.put, List.setIfInBounds_toArray, List.set_cons_zero, List.set_cons_succ]
              refine wpAnyH_ready (rs := [17]) (by kernel_rfl) (by simp) ?_
              refine AllReadyH.cons rfl (fun K hK => ?_) ?_
              · refine step_update_run (d := none) hup _ _ _ rfl rfl rfl rfl rfl rfl ?_
                refine hK.out _ _ s4 (fun hHeld => ?_)
                clear hK
                simp only [Act.put, List.setIfInBounds_toArray, List.set_cons_zero, List.set_cons_succ]
                refine wpAnyH_done (by kernel_rfl) ?_ _
                go_wp2_with (fail)
                go_ret
                obtain ⟨S', x1, x2⟩ := hfin.out
                exact ⟨rfl, S', _, ⟨⟨x1.b0.os, x1.b0.tape, x1.b0.output, x1.b0.size, x1.b0.block⟩, x1.oth, x1.grow⟩, x2⟩
              exact AllReadyH.nil
            exact AllReadyH.nil
          exact AllReadyH.nil
        exact AllReadyH.nil
      exact AllReadyH.nil
    refine AllReadyH.cons rfl (fun K hK => ?_) ?_
    · refine step_array_run (d := some 33) (har _) _ rfl rfl rfl rfl ?_
      refine hK.out _ _ s1.1 (fun hHeld => ?_)
      clear hK
      simp only [Act.put, List.setIfInBounds_toArray, List.set_cons_zero, List.set_cons_succ]
      refine wpAnyH_ready (rs := [10, 14]) (by kernel_rfl) (by simp) ?_
      refine AllReadyH.cons rfl (fun K hK => ?_) ?_
      · refine step_lookup_run (d := some 30) s1.2 _ _ rfl rfl rfl rfl rfl ?_
        refine hK.out _ _ s1.1 (fun hHeld => ?_)
        clear hK
        simp only [Act.put, List.setIfInBounds_toArray, List.set_cons_zero, List.set_cons_succ]
        refine wpAnyH_ready (rs := [14]) (by kernel_rfl) (by simp) ?_
        refine AllReadyH.cons rfl (fun K hK => ?_) ?_
        · refine step_load_run (d := some 34) hld _ rfl rfl rfl rfl ?_
          refine hK.out _ _ s1.1 (fun hHeld => ?_)
          clear hK
          simp only [Act.put, List.setIfInBounds_toArray, List.set_cons_zero, List.set_cons_succ]
          refine wpAnyH_ready (rs := [15]) (by kernel_rfl) (by simp) ?_
          refine AllReadyH.cons rfl (fun K hK => ?_) ?_
          · refine step_build_run (d := some 35) hbd _ rfl rfl rfl rfl ?_
            refine hK.out _ _ s2.1 (fun hHeld => ?_)
            clear hK
            simp only [Act.put, List.setIfInBounds_toArray, List.set_cons_zero, List.set_cons_succ]
            refine wpAnyH_ready (rs := [16]) (by kernel_rfl) (by simp) ?_
            refine AllReadyH.cons rfl (fun K hK => ?_) ?_
            · refine step_append_run (d := some 36) hap _ _ rfl rfl rfl rfl rfl rfl ?_
              refine hK.out _ _ s3 (fun hHeld => ?_)
              clear hK
              simp only [Act.put, List.setIfInBounds_toArray, List.set_cons_zero, List.set_cons_succ]
              refine wpAnyH_ready (rs := [17]) (by kernel_rfl) (by simp) ?_
              refine AllReadyH.cons rfl (fun K hK => ?_) ?_
              · refine step_update_run (d := none) hup _ _ _ rfl rfl rfl rfl rfl rfl ?_
                refine hK.out _ _ s4 (fun hHeld => ?_)
                clear hK
                simp only [Act.put, List.setIfInBounds_toArray, List.set_cons_zero, List.set_cons_succ]
                refine wpAnyH_done (by kernel_rfl) ?_ _
                go_wp2_with (fail)
                go_ret
                obtain ⟨S', x1, x2⟩ := hfin.out
                exact ⟨rfl, S', _, ⟨⟨x1.b0.os, x1.b0.tape, x1.b0.output, x1.b0.size, x1.b0.block⟩, x1.oth, x1.grow⟩, x2⟩
              exact AllReadyH.nil
            exact AllReadyH.nil
          exact AllReadyH.nil
        exact AllReadyH.nil
      refine AllReadyH.cons rfl (fun K hK => ?_) ?_
      · refine step_load_run (d := some 34) hld _ rfl rfl rfl rfl ?_
        refine hK.out _ _ s1.1 (fun hHeld => ?_)
        clear hK
        simp only [Act.put, List.setIfInBounds_toArray, List.set_cons_zero, List.set_cons_succ]
        refine wpAnyH_ready (rs := [10, 15]) (by kernel_rfl) (by simp) ?_
        refine AllReadyH.cons rfl (fun K hK => ?_) ?_
        · refine step_lookup_run (d := some 30) s1.2 _ _ rfl rfl rfl rfl rfl ?_
          refine hK.out _ _ s1.1 (fun hHeld => ?_)
          clear hK
          simp only [Act.put, List.setIfInBounds_toArray, List.set_cons_zero, List.set_cons_succ]
          refine wpAnyH_ready (rs := [15]) (by kernel_rfl) (by simp) ?_
          refine AllReadyH.cons rfl (fun K hK => ?_) ?_
          · refine step_build_run (d := some 35) hbd _ rfl rfl rfl rfl ?_
            refine hK.out _ _ s2.1 (fun hHeld => ?_)
            clear hK
            simp only [Act.put, List.setIfInBounds_toArray, List.set_cons_zero, List.set_cons_succ]
            refine wpAnyH_ready (rs := [16]) (by kernel_rfl) (by simp) ?_
            refine AllReadyH.cons rfl (fun K hK => ?_) ?_
            · refine step_append_run (d := some 36) hap _ _ rfl rfl rfl rfl rfl rfl ?_
              refine hK.out _ _ s3 (fun hHeld => ?_)
              clear hK
              simp only [Act.put, List.setIfInBounds_toArray, List.set_cons_zero, List.set_cons_succ]
              refine wpAnyH_ready (rs := [17]) (by kernel_rfl) (by simp) ?_
              refine AllReadyH.cons rfl (fun K hK => ?_) ?_
              · refine step_update_run (d := none) hup _ _ _ rfl rfl rfl rfl rfl rfl ?_
                refine hK.out _ _ s4 (fun hHeld => ?_)
                clear hK
                simp only [Act.put, List.setIfInBounds_toArray, List.set_cons_zero, List.set_cons_succ]
                refine wpAnyH_done (by kernel_rfl) ?_ _
                go_wp2_with (fail)
                go_ret
                obtain ⟨S', x1, x2⟩ := hfin.out
                exact ⟨rfl, S', _, ⟨⟨x1.b0.os, x1.b0.tape, x1.b0.output, x1.b0.size, x1.b0.block⟩, x1.oth, x1.grow⟩, x2⟩
              exact AllReadyH.nil
            exact AllReadyH.nil
          exact AllReadyH.nil
        refine AllReadyH.cons rfl (fun K hK => ?_) ?_
        · refine step_build_run (d := some 35) hbd _ rfl rfl rfl rfl ?_
          refine hK.out _ _ s2.1 (fun hHeld => ?_)
          clear hK
          simp only [Act.put, List.setIfInBounds_toArray, List.set_cons_zero, List.set_cons_succ]
          refine wpAnyH_ready (rs := [10]) (by kernel_rfl) (by simp) ?_
          refine AllReadyH.cons rfl (fun K hK => ?_) ?_
          · refine step_lookup_run (d := some 30) s2.2 _ _ rfl rfl rfl rfl rfl ?_
            refine hK.out _ _ s2.1 (fun hHeld => ?_)
            clear hK
            simp only [Act.put, List.setIfInBounds_toArray, List.set_cons_zero, List.set_cons_succ]
            refine wpAnyH_ready (rs := [16]) (by kernel_rfl) (by simp) ?_
            refine AllReadyH.cons rfl (fun K hK => ?_) ?_
            · refine step_append_run (d := some 36) hap _ _ rfl rfl rfl rfl rfl rfl ?_
              refine hK.out _ _ s3 (fun hHeld => ?_)
              clear hK
              simp only [Act.put, List.setIfInBounds_toArray, List.set_cons_zero, List.set_cons_succ]
              refine wpAnyH_ready (rs := [17]) (by kernel_rfl) (by simp) ?_
              refine AllReadyH.cons rfl (fun K hK => ?_) ?_
              · refine step_update_run (d := none) hup _ _ _ rfl rfl rfl rfl rfl rfl ?_
                refine hK.out _ _ s4 (fun hHeld => ?_)
                clear hK
                simp only [Act.put, List.setIfInBounds_toArray, List.set_cons_zero, List.set_cons_succ]
                refine wpAnyH_done (by kernel_rfl) ?_ _
                go_wp2_with (fail)
                go_ret
                obtain ⟨S', x1, x2⟩ := hfin.out
                exact ⟨rfl, S', _, ⟨⟨x1.b0.os, x1.b0.tape, x1.b0.output, x1.b0.size, x1.b0.block⟩, x1.oth, x1.grow⟩, x2⟩
              exact AllReadyH.nil
            exact AllReadyH.nil
          exact AllReadyH.nil
        exact AllReadyH.nil
      exact AllReadyH.nil
    exact AllReadyH.nil
  exact AllReadyH.nil
end Go.Proofs.YtfadglcpapiklaaGreatDoor
end
section
namespace Go.Proofs.YtfadglcpapiklaaGreatDoor
open Go.RowKit
set_option linter.unusedVariables false
set_option linter.unusedSimpArgs false

theorem made_all (n : Nat) (s : ByteArray) : (madeCells (contL s).toArray (n * 128)).toList = EC.all (List.replicate n s) := by
  apply List.ext_getElem?
  intro j
  have hl := EC.all_len (List.replicate n s)
  rw [List.length_replicate, ec_k] at hl
  by_cases h : j < n * 128
  · have h1 : j / 128 < n := Nat.div_lt_of_lt_mul (by omega)
    have h2 : j % 128 < 128 := Nat.mod_lt _ (by omega)
    have := EC.all_get (List.replicate n s) (j / 128) (by simpa using h1) (j % 128) h2
    rw [ec_k, show j / 128 * 128 + j % 128 = j by omega, List.getElem_replicate, ec_f] at this
    rw [this]
    have hlen := contL_len s
    simp [madeCells, h, hlen, h2]
  · rw [List.getElem?_eq_none (by rw [Array.length_toList, size_madeCells]; omega), List.getElem?_eq_none (by rw [hl]; omega)]
def noV : Int → List ByteArray := fun _ => []
def noF : Int → Value := fun _ => nilS
/-- A new member. -/
def MakesM (w : World) (n : Nat) (e : Ending) (w' : World) : Prop :=
  ∃ S m g bp cap, e = .returned (.tuple #[.pointer (some ⟨m, 0, none⟩), .int .i64 0]) ∧ Below w.heap.size w w' ∧ (∀ k, S k → w.heap.size ≤ k) ∧ PBox w' S m g bp cap false (List.replicate n zero128) noV noF
set_option maxRecDepth 100000 in
theorem newm_any (n : Nat) (w : World) (h1 : 1 ≤ n) (h2 : n ≤ 256) : Calls Tryz.prog 74 #[.int .i64 (n : Int)] w (MakesM w n) := by
  obtain ⟨ci, k1, k2, k3, k4⟩ := cont_is
  obtain ⟨w1, hmk, ho, hg⟩ := run_makeSlice_full (P := Tryz.prog) w 0 127 132 ci _ 128 Tryz.underlying127 k1 k2 k3 .i64 .i64 n (by omega) (by rw [k4]; omega) (by unfold maxLen; omega) (Nat.zero_le _)
  have hcz : (Value.agg (contL zero128).toArray).cells = (contL zero128).toArray := rfl
  rw [hcz, made_all] at ho
  have hO : OwnE EC w1 0 132 (.slice (some ⟨w.heap.size, 0, none⟩) n n) (List.replicate n zero128) := ⟨by rw [List.length_replicate]; exact ho⟩
  have hlt : w.heap.size < w1.heap.size := (hO.lt w.heap.size rfl).2
  have hb1 : Below w.heap.size w w1 := (Below.refl _ _).grown hg (Nat.le_refl _) (fun k hk => by cases hk)
  obtain ⟨g, hgg⟩ : ∃ g, w.heap.size = g := ⟨_, rfl⟩
  rw [hgg] at hO
  obtain ⟨q, hq⟩ : ∃ q, w1.heap.size = q := ⟨_, rfl⟩
  have hfin : Hid (MakesM w n (.returned (.tuple #[.pointer (some ⟨q + 1, 0, none⟩), .int .i64 0])) ((w1.alloc (.map #[] 0)).alloc (.cells #[.bool false, .slice (some ⟨g, 0, none⟩) n n, .map (some q)] 130))) := by
    refine Lib.hid ⟨fun k => k = g ∨ k = q ∨ k = q + 1, q + 1, g, q, n, rfl, (hb1.alloc (by omega) _).alloc (by simp; omega) _, ?_, ?_⟩
    · rintro k (rfl | rfl | rfl) <;> omega
    · have b2 : Below w1.heap.size w1 ((w1.alloc (.map #[] 0)).alloc (.cells #[.bool false, .slice (some ⟨g, 0, none⟩) n n, .map (some q)] 130)) := ((Below.refl _ _).alloc (Nat.le_refl _) _).alloc (by simp) _
      have hm := MapZ.made w1 Tryz.prog 3 nilS
      rw [hq] at hm
      refine ⟨?_, ?_, ?_, fun z hz => OwnE.nil _ _ _ _, .inr (.inr rfl), .inl rfl, .inr (.inl rfl), fun z hz k hk => (by cases hk), fun y z _ _ _ => Apart.nil _, by omega, by omega, by omega, ?_, fun z hz h => absurd rfl h, by rw [List.length_replicate]; exact h1, by rw [List.length_replicate]; exact h2, fun s hs => ?_, fun z s hs => (by cases hs)⟩
      · have e : (w1.alloc (.map #[] 0)).heap.size = q + 1 := by simp [hq]
        rw [← e, List.length_replicate]; exact heap_alloc_new _ _
      · rw [List.length_replicate]
        exact hO.after b2
      · rw [List.length_replicate]
        exact (hm.heap (Below.heap_alloc _ _ q (by simp [hq]))).mono (Nat.zero_le _)
      · rintro k (rfl | rfl | rfl) <;> simp <;> omega
      · rw [List.eq_of_mem_replicate hs]; exact zero128_size
  have t1 : decide ((n : Int) < 1) = false := by rw [decide_eq_false_iff_not]; omega
  have t2 : decide ((256 : Int) < (n : Int)) = false := by rw [decide_eq_false_iff_not]; omega
  rw [hgg] at hmk
  have hmm : (Instr.makeMap 128 none).run Tryz.prog w1 = .ok (.map (some q)) (w1.alloc (.map #[] 0)) := by rw [← hq]; rfl
  have hq2 : (w1.alloc (.map #[] 0)).heap.size = q + 1 := by simp [hq]
  clear ho hO hb1 hg hgg hlt h1 h2 k1 k2 k3 k4 hcz
  go_enter Tryz.func74, Tryz.ntmps74
  go_wp2_with (fail)
  go_ret2
  exact hfin.out
end Go.Proofs.YtfadglcpapiklaaGreatDoor
end
section
namespace Go.Proofs.YtfadglcpapiklaaGreatDoor
open Go.RowKit Go.Maps Go.Sort Go.Shelf Go.Proofs
set_option linter.unusedVariables false
set_option linter.unusedSimpArgs false

/-- Where the library's functions stand here. -/
def zR : Ren := ⟨fun | 6 => 98 | 7 => 99 | 8 => 130 | 9 => 131 | 10 => 132 | 11 => 141 | n => n,
  fun | 0 => 0 | 4 => 4 | 3 => 127 | 23 => 128 | 24 => 24 | 26 => 3 | 27 => 141 | 28 => 142 | 33 => 43 | n => n, fun n => n⟩
theorem zK : SlLaysZI.n7 Tryz.prog zR := {
  mixed := by kernel_rfl
  f7 := ⟨"maps.Keys[map[int][]stave/member.content,int,[]stave/member.content]", by decide, Tryz.func99.trans (congrArg some (by kernel_rfl))⟩
  f10 := ⟨"maps.Keys[map[int][]stave/member.content,int,[]stave/member.content]$1", by decide, Tryz.func132.trans (congrArg some (by kernel_rfl))⟩
  t0 := Tryz.underlying0
  a0 := Tryz.isAgg0
  z0 := Tryz.sizeOf0
  v0 := Tryz.zeroValue0
  t4 := Tryz.underlying4
  a4 := Tryz.isAgg4
  z4 := Tryz.sizeOf4
  v4 := Tryz.zeroValue4
  t23 := Tryz.underlying128
  a23 := Tryz.isAgg128
  z23 := Tryz.sizeOf128
  v23 := Tryz.zeroValue128
  t26 := Tryz.underlying3
  a26 := Tryz.isAgg3
  z26 := Tryz.sizeOf3
  v26 := Tryz.zeroValue3
  t27 := Tryz.underlying141
  a27 := Tryz.isAgg141
  z27 := Tryz.sizeOf141
  v27 := Tryz.zeroValue141
  t28 := Tryz.underlying142
  a28 := Tryz.isAgg142
  z28 := Tryz.sizeOf142
  v28 := Tryz.zeroValue142
  t33 := Tryz.underlying43
  a33 := Tryz.isAgg43
  z33 := Tryz.sizeOf43
  v33 := Tryz.zeroValue43 }
theorem zS : SlLaysZI.n6 Tryz.prog zR := {
  mixed := by kernel_rfl
  f6 := ⟨"slices.Sorted[int]", by decide, Tryz.func98.trans (congrArg some (by kernel_rfl))⟩
  f8 := ⟨"slices.Collect[int]", by decide, Tryz.func130.trans (congrArg some (by kernel_rfl))⟩
  f11 := ⟨"slices.AppendSeq[[]int,int]", by decide, Tryz.func141.trans (congrArg some (by kernel_rfl))⟩
  t0 := Tryz.underlying0
  a0 := Tryz.isAgg0
  z0 := Tryz.sizeOf0
  v0 := Tryz.zeroValue0
  t24 := Tryz.underlying24
  a24 := Tryz.isAgg24
  z24 := Tryz.sizeOf24
  v24 := Tryz.zeroValue24
  t26 := Tryz.underlying3
  a26 := Tryz.isAgg3
  z26 := Tryz.sizeOf3
  v26 := Tryz.zeroValue3
  t28 := Tryz.underlying142
  a28 := Tryz.isAgg142
  z28 := Tryz.sizeOf142
  v28 := Tryz.zeroValue142
  i26 := by kernel_rfl }
theorem sorts_wide (m : Nat) : AnyZI.SortsIn Tryz.prog zR Fence.wide m :=
  ⟨fun blk off cap ss W hH hblk hsz => callsIn_wide.2 (Tryz.slices_Sort_int blk off cap ss W hH hblk hsz), fun p cap W => callsIn_wide.2 (Tryz.slices_Sort_int_none p cap W)⟩
/-- What the keys of such a map are. -/
theorem ownsMap_keys {w : World} {P : Program} {k : TypeId} {b n : Nat} {D : DataW Value} (hk : P.underlying k = some (.int .i64)) (h1 : w.ownsMap P k RV b n D) : ∃ l, D = .map l ∧ l.Pairwise (fun p q => p.1 ≠ q.1) ∧ ∀ p ∈ l, ∃ a, p.1 = kz a ∧ In64 a := by
  obtain ⟨l, hl, hp, hkey⟩ := h1.entries (Maps.int_keyed hk)
  refine ⟨l, hl, hp, fun p hpm => ?_⟩
  obtain ⟨es, clock, hb, F, hs, hD⟩ := h1
  have hpm' : p ∈ ((es.toList.map (WideElems.rg P k RV)).foldr DataW.insert []) := by rw [hl] at hD; injection hD with hD; rw [← hD]; exact hpm
  obtain ⟨x, hxe, rfl⟩ := List.mem_map.1 (mem_sorted.1 hpm')
  obtain ⟨y, hy⟩ := F.reads x hxe
  obtain ⟨a, _, ha2, haw⟩ := Maps.keyOf_int_inv hk (WideElems.rd_key hy)
  exact ⟨a, by rw [WideElems.rg_of hy]; exact ha2, haw⟩
/-- The sectors that have pending versions, in order. -/
def pend (n : Nat) (V : Int → List ByteArray) : List Int := ((List.range n).filter fun i : Nat => zOf V (i : Int)).map fun i : Nat => (i : Int)
theorem mem_pend {n : Nat} {V : Int → List ByteArray} {x : Int} : x ∈ pend n V ↔ ∃ i : Nat, i < n ∧ zOf V (i : Int) = true ∧ x = (i : Int) := by
  unfold pend
  simp only [List.mem_map, List.mem_filter, List.mem_range]
  exact ⟨fun ⟨i, ⟨h1, h2⟩, h3⟩ => ⟨i, h1, h2, h3.symm⟩, fun ⟨i, h1, h2, h3⟩ => ⟨i, ⟨h1, h2⟩, h3.symm⟩⟩
theorem pend_lt (n : Nat) (V : Int → List ByteArray) : (pend n V).Pairwise (fun x y => x < y) := by
  unfold pend
  rw [List.pairwise_map]
  exact (List.pairwise_lt_range.filter _).imp fun {a b} h => by omega
theorem pend_le (n : Nat) (V : Int → List ByteArray) : (pend n V).length ≤ n := by
  unfold pend; rw [List.length_map]; have := List.length_filter_le (fun i : Nat => zOf V (i : Int)) (List.range n); simpa using this
theorem pend_perm {w : World} {b n N : Nat} {V : Int → List ByteArray} {F : Int → Value} {D : DataW Value} (hk : Tryz.prog.underlying 3 = some (.int .i64)) (h1 : w.ownsMap Tryz.prog 3 RV b N D) (h2 : ∀ z, In64 z → Maps.has D (kz z) = zOf V z)
    (hn : n ≤ 256) (hkeys : ∀ z, In64 z → V z ≠ [] → 0 ≤ z ∧ z < (n : Int)) : (pend n V).Perm (intKeys D) := by
  obtain ⟨l, rfl, hp, hka⟩ := ownsMap_keys hk h1
  refine perm_intKeys hp (fun p hpm => by obtain ⟨a, ha, _⟩ := hka p hpm; exact ⟨a, ha⟩) ((pend_lt n V).imp fun h => by omega) (fun x => ?_)
  by_cases hx : In64 x
  · show _ ↔ Maps.has (.map l) (kz x) = true
    rw [h2 x hx, mem_pend]
    constructor
    · rintro ⟨i, _, h, rfl⟩; exact h
    · intro h
      have hv : V x ≠ [] := fun e => by unfold zOf at h; rw [e] at h; simp at h
      obtain ⟨h3, h4⟩ := hkeys x hx hv
      have e : ((x.toNat : Nat) : Int) = x := Int.toNat_of_nonneg h3
      exact ⟨x.toNat, by omega, by rw [e]; exact h, e.symm⟩
  · constructor
    · intro h
      obtain ⟨i, hi, _, rfl⟩ := mem_pend.1 h
      exact absurd (in64_nat i (by omega)) hx
    · intro h
      obtain ⟨p, hpm, hs⟩ := List.any_eq_true.1 h
      obtain ⟨a, ha, haw⟩ := hka p hpm
      have e := WideAt.sameKey_eq hs
      rw [ha] at e
      injection e with _ e
      exact absurd (e ▸ haw) hx
theorem sort_pend {n : Nat} {V : Int → List ByteArray} {ss : List Int} (h : ss.Perm (pend n V)) : (ss.mergeSort fun x y => decide (x ≤ y)) = pend n V := by
  refine List.Perm.eq_of_pairwise (le := fun a b => decide (a ≤ b) = true) (fun a b _ _ h1 h2 => ?_) (List.pairwise_mergeSort (fun a b c h1 h2 => ?_) (fun a b => ?_) ss) ((pend_lt n V).imp fun h => by simp; omega) ((List.mergeSort_perm ss _).trans h)
  · simp at h1 h2; omega
  · simp at h1 h2 ⊢; omega
  · simp; omega
/-- What is pending, as a slice of the call's own. -/
def GivesP (w : World) (l : List Int) (e : Ending) (w' : World) : Prop := ∃ v, e = .returned v ∧ Below w.heap.size w w' ∧ Own w' w.heap.size 3 v (l.map (.int .i64))
set_option maxHeartbeats 1000000 in
theorem pend_any {w : World} {S : Nat → Prop} {m g bp cap : Nat} {fd : Bool} {L : List ByteArray} {V : Int → List ByteArray} {F : Int → Value} (h : PBox w S m g bp cap fd L V F) :
    Calls Tryz.prog 63 #[.pointer (some ⟨m, 0, none⟩)] w (GivesP w (pend L.length V)) := by
  have c2 := h.c2
  have hn2 := h.n2
  obtain ⟨D, hD, hz⟩ := h.p
  have hperm := pend_perm (n := L.length) (V := V) (F := F) Tryz.underlying3 hD (fun z hz' => (hz z hz').1) h.n2 h.keys
  have hbl := hD.lt
  have hsz : Maps.size D ≤ 256 := Nat.le_trans hD.size_le hn2
  have cK := callsIn_wide.1 (AnyZI.keys_in zK Fence.wide 6 trivial rfl (some bp) w)
  have hseq : SeqGives Fence.wide 2 Tryz.prog (zR.f 10) #[.pointer (some ⟨w.heap.size, 0, none⟩)] encZ (fun ss => ss.Perm (intKeys D)) (Maps.size D) (w.alloc (.cells #[.map (some bp)] 128)) :=
    AnyZI.keys_gives { zK with } Fence.wide _ trivial rfl (by omega) w.heap.size bp L.length D _ (by simp) (by simp) (by
      obtain ⟨es, clock, hb, Ft, hs, hDD⟩ := hD
      exact ⟨es, clock, (Below.heap_alloc _ _ bp hbl).trans hb, Ft, hs, hDD⟩)
  have cS := callsIn_wide.1 (AnyZI.sorted_in zS Fence.wide 5 trivial trivial trivial trivial rfl (by omega) (sorts_wide _) (fun args w => enters_of Tryz.func131 (by kernel_rfl) rfl args w) (zR.f 10) _ trivial (fun args w => enters_of Tryz.func132 (by kernel_rfl) rfl args w) _ _ (by unfold maxLen; omega) (by omega) _ hseq)
  clear hD hz hseq h hn2 hbl hsz
  go_enter Tryz.func63, Tryz.ntmps63
  go_wp2_with (fail)
  refine cK.mono ?_
  rintro e w' ⟨rfl, rfl⟩
  go_wp2_with (fail)
  refine cS.mono ?_
  rintro e w' ⟨v, ss, rfl, hS, hrow, hnil, hb⟩
  go_wp2_with (fail)
  go_ret
  have e := sort_pend (hS.trans hperm.symm)
  refine ⟨v, rfl, ((Below.refl _ w).alloc (Nat.le_refl _) _).trans (hb.mono (by simp)), ?_⟩
  rw [e] at hrow
  have hl : ss.length = ((pend L.length V).map (Value.int .i64)).length := by rw [List.length_map, ← e, List.length_mergeSort]
  rw [hl] at hrow
  exact Own.mono ⟨hrow⟩ (by simp)
end Go.Proofs.YtfadglcpapiklaaGreatDoor
end
section
namespace Go.Proofs.YtfadglcpapiklaaGreatDoor
open Go.RowKit
set_option linter.unusedVariables false
set_option linter.unusedSimpArgs false

theorem setCells_heap (g : Nat) (T : TypeId) : ∀ (vs : List Value) (o : Nat) (w : World) (cur : Array Value), w.heap[g]? = some (.cells cur T (0, 0)) →
    ∃ cur', (w.setCells g o vs).heap[g]? = some (.cells cur' T (0, 0)) ∧ cur'.size = cur.size ∧ ∀ j, cur'[j]? = if o ≤ j ∧ j < o + vs.length ∧ j < cur.size then vs[j - o]? else cur[j]?
  | [], o, w, cur, h => ⟨cur, h, rfl, fun j => by rw [if_neg (by show ¬ (o ≤ j ∧ j < o + 0 ∧ j < cur.size); omega)]⟩
  | v :: r, o, w, cur, h => by
    have h1 : (w.setCell ⟨g, o, none⟩ v).heap[g]? = some (.cells (cur.setIfInBounds o v) T (0, 0)) := by simp [World.setCell, Array.getElem?_modify, h]
    obtain ⟨cur', a, b, c⟩ := setCells_heap g T r (o + 1) _ _ h1
    refine ⟨cur', a, by simpa using b, fun j => ?_⟩
    rw [c j]
    simp only [Array.size_setIfInBounds, List.length_cons]
    by_cases e : o + 1 ≤ j ∧ j < o + 1 + r.length ∧ j < cur.size
    · rw [if_pos e, if_pos (by omega), show j - o = (j - (o + 1)) + 1 by omega, List.getElem?_cons_succ]
    · rw [if_neg e, Array.getElem?_setIfInBounds]
      by_cases e2 : o = j
      · subst e2
        by_cases h2 : o < cur.size
        · rw [if_pos rfl, if_pos h2, if_pos (by omega)]; simp
        · rw [if_pos rfl, if_neg h2, if_neg (by omega), Array.getElem?_eq_none (by omega)]
      · rw [if_neg e2, if_neg (by omega)]
theorem setCells_step (g : Nat) : ∀ (vs : List Value) (o : Nat) (w : World), (w.setCells g o vs).os = w.os ∧ (w.setCells g o vs).tape = w.tape ∧ (w.setCells g o vs).output = w.output ∧ (w.setCells g o vs).heap.size = w.heap.size ∧ ∀ k, k ≠ g → (w.setCells g o vs).heap[k]? = w.heap[k]?
  | [], o, w => ⟨rfl, rfl, rfl, rfl, fun _ _ => rfl⟩
  | v :: r, o, w => by
    obtain ⟨a, b, c, d, e⟩ := setCells_step g r (o + 1) (w.setCell ⟨g, o, none⟩ v)
    refine ⟨a.trans rfl, b.trans rfl, c.trans rfl, d.trans (by simp), fun k hk => (e k hk).trans (Below.heap_setCell _ _ _ _ hk)⟩
/-- One whole element is set. -/
theorem OwnE.setA {α : Type} {E : Enc α} {w : World} {B : Nat} {T : TypeId} {g n cap : Nat} {l : List α} (h : OwnE E w B T (.slice (some ⟨g, 0, none⟩) n cap) l) (i : Nat) (hi : i < l.length) (a : α) :
    OwnE E (w.setCells g (i * E.k) (E.f a)) B T (.slice (some ⟨g, 0, none⟩) n cap) (l.set i a) := by
  obtain ⟨rfl, hB, cur, hg, h1, h2, h3, h4⟩ := h.row
  obtain ⟨cur', k1, k2, k3⟩ := setCells_heap g T (E.f a) (i * E.k) w cur hg
  have := OwnE.ofRow (E := E) (l := l.set i a) hB k1 (by rw [List.length_set]; exact h1) h2 (k2.trans h3) ?_
  · rw [List.length_set] at this; exact this
  · apply List.ext_getElem?
    intro j
    rw [List.length_set]
    by_cases hj : j < l.length * E.k
    · have hq : j / E.k < l.length := Nat.div_lt_of_lt_mul (by rw [Nat.mul_comm]; exact hj)
      have hr : j % E.k < E.k := Nat.mod_lt _ E.pos
      have hjj : j = j / E.k * E.k + j % E.k := by rw [Nat.mul_comm]; exact (Nat.div_add_mod j E.k).symm
      have hcs : l.length * E.k ≤ cur.size := by rw [h3]; exact Nat.mul_le_mul_right _ h1
      have e1 := E.all_get (l.set i a) (j / E.k) (by rw [List.length_set]; exact hq) (j % E.k) hr
      have e2 := E.all_get l (j / E.k) hq (j % E.k) hr
      rw [← hjj] at e1 e2
      rw [e1, List.getElem?_take_of_lt hj, Array.getElem?_toList, k3 j, E.len]
      have hold : cur[j]? = (E.f l[j / E.k])[j % E.k]? := by
        rw [← e2, ← h4, List.getElem?_take_of_lt hj, Array.getElem?_toList]
      by_cases e : i = j / E.k
      · have hlo : i * E.k ≤ j := by rw [e]; omega
        have hhi : j < i * E.k + E.k := by rw [e]; omega
        rw [if_pos ⟨hlo, hhi, by omega⟩, List.getElem_set, if_pos e]
        congr 1
        have : i * E.k = j / E.k * E.k := by rw [e]
        omega
      · rw [List.getElem_set, if_neg e, if_neg ?_]
        · exact hold
        · rintro ⟨x1, x2, _⟩
          apply e
          have hle : i ≤ j / E.k := (Nat.le_div_iff_mul_le E.pos).2 x1
          have hlt : j / E.k < i + 1 := Nat.div_lt_of_lt_mul (by rw [Nat.mul_comm, Nat.succ_mul]; exact x2)
          omega
    · rw [List.getElem?_eq_none (by rw [List.length_take]; omega), List.getElem?_eq_none (by rw [E.all_len, List.length_set]; omega)]
theorem PBox.there {w : World} {S : Nat → Prop} {m g bp cap : Nat} {fd : Bool} {L : List ByteArray} {V : Int → List ByteArray} {F : Int → Value} (h : PBox w S m g bp cap fd L V F) {i : Nat} (hi : i < L.length) : w.there g (i * 128) 128 := fun j hj =>
  ⟨by
    have e : w.cell? ⟨g, i * 128 + j, none⟩ = (EC.f L[i])[j]? := h.l.cell hi hj
    rw [e, List.getElem?_eq_getElem (by rw [EC.len]; exact hj)]; rfl, h.l.frozen _⟩
theorem PBox.setL {w : World} {S : Nat → Prop} {m g bp cap : Nat} {fd : Bool} {L : List ByteArray} {V : Int → List ByteArray} {F : Int → Value} (h : PBox w S m g bp cap fd L V F) (i : Nat) (hi : i < L.length) (s : ByteArray) (hs : s.size = 128) :
    (Instr.storeAt 132 (.pointer (some ⟨g, i * 128, none⟩)) (.agg (contL s).toArray)).run Tryz.prog w = .ok () (w.setCells g (i * 128) (contL s)) ∧ PBox (w.setCells g (i * 128) (contL s)) S m g bp cap fd (L.set i s) V F ∧ Stp S S w (w.setCells g (i * 128) (contL s)) := by
  obtain ⟨k1, k2, k3, k4, k5⟩ := setCells_step g (contL s) (i * 128) w
  have hst := run_storeAt_mid (P := Tryz.prog) w g (i * 128) 132 (contL s).toArray (by rw [cont_size]; exact h.there hi) (cont_isa s) (cont_one s)
  refine ⟨hst, ⟨?_, ?_, ?_, fun z hz => (h.r z hz).sameAt fun k hk => k5 k (h.sr z hz k hk).2.2.1, h.sm, h.sg, h.sp, h.sr, h.ap, h.mg, h.mp, h.gp, fun k hk => by rw [k4]; exact h.lt k hk, ?_, ?_, ?_, ?_, h.zv⟩, ⟨⟨k1, k2, k3, by omega, fun k hk => absurd hk (Nat.not_lt_zero _)⟩, fun k _ hn => k5 k (fun e => hn (e ▸ h.sg)), fun k hk => .inl hk⟩⟩
  · rw [k5 m h.mg, List.length_set]; exact h.b
  · have := h.l.setA i hi s
    rw [List.length_set]; exact this
  · rw [List.length_set]; exact h.p.heap (k5 bp (Ne.symm h.gp))
  · rw [List.length_set]; exact h.keys
  · rw [List.length_set]; exact h.n1
  · rw [List.length_set]; exact h.n2
  · intro t ht
    rcases List.mem_or_eq_of_mem_set ht with h1 | h1
    · exact h.zl t h1
    · rw [h1]; exact hs
set_option maxRecDepth 100000 in
/-- Nothing is pending any more. -/
theorem PBox.clear {w : World} {S : Nat → Prop} {m g bp cap : Nat} {fd : Bool} {L : List ByteArray} {V : Int → List ByteArray} {F : Int → Value} (h : PBox w S m g bp cap fd L V F) (ty : TypeId) :
    ∃ w', (Builtin.clear_ #[128] ty #[.map (some bp)]).run Tryz.prog w = .ok (.tuple #[]) w' ∧ PBox w' S m g bp cap fd L noV noF ∧ Stp S S w w' := by
  obtain ⟨w', h1, h2, h3⟩ := h.p.clear Tryz.underlying128 ty
  have hg := h3.grown
  have ho : ∀ k, k < w.heap.size → k ≠ bp → w'.heap[k]? = w.heap[k]? := fun k hk hne => hg.block k hk (by simpa using hne)
  refine ⟨w', h1, ⟨?_, ?_, h2.mono (Nat.zero_le _), fun z hz => OwnE.nil _ _ _ _, h.sm, h.sg, h.sp, fun z hz k hk => (by cases hk), fun y z _ _ _ => Apart.nil _, h.mg, h.mp, h.gp, fun k hk => Nat.lt_of_lt_of_le (h.lt k hk) hg.size, fun z _ hz => absurd rfl hz, h.n1, h.n2, h.zl, fun z s hs => (by cases hs)⟩,
    ⟨⟨hg.os, hg.tape, hg.output, hg.size, fun k hk => absurd hk (Nat.not_lt_zero _)⟩, fun k hk hn => ho k hk (fun e => hn (e ▸ h.sp)), fun k hk => .inl hk⟩⟩
  · rw [ho m (h.lt m h.sm) h.mp]; exact h.b
  · refine h.l.sameAt fun k hk => ?_
    injection hk with hk; subst hk
    exact ho _ (h.lt g h.sg) h.gp
section
variable {P : Program} {ops : Array Oper} {o : Oper} {a : Act} {w w' : World} {K : Act → World → Prop} {Q : Exit → Act → World → Prop} {E : Prop}
theorem step_store_run {ty : TypeId} {p v : Value} (hr : (Instr.storeAt ty p v).run P w = .ok () w') (x y : Operand) (hg : o.guard = none) (hop : o.op = .store ty x y) (hx : a.eval x = p) (hy : a.eval y = v) {d : Option Tmp} (hd : o.dst = d) (hK : K (a.put d undef) w') :
    if Region.wanted o (yielded ops a.tmps) = true then Oper.wp P o a w K Q else E := by
  have hw : Region.wanted o (yielded ops a.tmps) = true := by simp [Region.wanted, hg]
  rw [if_pos hw]
  subst hd
  unfold Oper.wp execOp
  simp only [hop, hx, hy, Sem.run_bind, Sem.run_pure, hr, Result.andThen_ok]
  exact hK
theorem yieldsIf_load_run {S : World → Prop} {ty : TypeId} {p v : Value} (hw : Region.wanted o (yielded ops a.tmps) = true) (x : Operand) (ho : o.op = .load ty x) (hx : a.eval x = p) (hS : ∀ w, S w → (Instr.loadAt ty p).run P w = .ok v w) : YieldsIf P ops S o v a :=
  .inl ⟨hw, fun w hw' => by
    unfold execOp
    simp only [ho, hx, Sem.run_bind, Sem.run_pure, hS w hw', Result.andThen_ok]⟩
end
end Go.Proofs.YtfadglcpapiklaaGreatDoor
end
section
namespace Go.Proofs.YtfadglcpapiklaaGreatDoor
open Go.RowKit
set_option linter.unusedVariables false
set_option linter.unusedSimpArgs false

/-- What a raw number chooses. -/
def pickC (c : Int) : Nat := if c < 0 then (-(c + 1)).toNat else c.toNat
def chAt (ch : List Int) (k : Nat) : Int := ch.getD k 0
/-- The choice among what is pending in the k-th of the pending sectors. -/
def chJ (V : Int → List ByteArray) (ch P : List Int) (k : Nat) : Nat := pickC (chAt ch k) % ((V (P.getD k 0)).length + 1)
def crL (L : List ByteArray) (V : Int → List ByteArray) (ch P : List Int) : Nat → List ByteArray
  | 0 => L
  | k + 1 => if chJ V ch P k = 0 then crL L V ch P k else (crL L V ch P k).set (P.getD k 0).toNat ((V (P.getD k 0)).getD (chJ V ch P k - 1) zero128)
theorem crL_len (L : List ByteArray) (V : Int → List ByteArray) (ch P : List Int) : ∀ k, (crL L V ch P k).length = L.length
  | 0 => rfl
  | k + 1 => by
    unfold crL
    split
    · exact crL_len L V ch P k
    · rw [List.length_set]; exact crL_len L V ch P k
/-- What lasts behind a crash. -/
def crash (L : List ByteArray) (V : Int → List ByteArray) (ch : List Int) : List ByteArray := crL L V ch (pend L.length V) (pend L.length V).length
theorem Reads.at {w w' : World} {v : Value} {xs : List Value} (h : Reads w v xs) (hk : ∀ b, v.ownBlock = some b → w'.heap[b]? = w.heap[b]?) (hs : w.heap.size ≤ w'.heap.size) : Reads w' v xs := by
  rcases h with h | ⟨b, off, cap, rfl, h2, h3⟩
  · exact .inl h
  · exact .inr ⟨b, off, cap, rfl, Nat.lt_of_lt_of_le h2 hs, fun i hi => by rw [← h3 i hi]; exact cell_of_heap (hk b rfl) _⟩
theorem Reads.blk {w : World} {v : Value} {xs : List Value} (h : Reads w v xs) (hx : xs ≠ []) : ∀ b, v.ownBlock = some b → b < w.heap.size := by
  rcases h with ⟨_, h⟩ | ⟨b, off, cap, rfl, h2, h3⟩
  · exact absurd h hx
  · intro b' hb'
    have e : b = b' := by simpa [Value.ownBlock] using hb'
    omega
theorem wrap_in {z : Int} (h1 : -9223372036854775808 ≤ z) (h2 : z ≤ 9223372036854775807) : IntKind.i64.wrap z = z := by rw [IntKind.wrap_i64]; omega
theorem in64_iff {z : Int} : In64 z ↔ -9223372036854775808 ≤ z ∧ z ≤ 9223372036854775807 := by
  have h1 : IntKind.i64.min = -9223372036854775808 := by decide
  have h2 : IntKind.i64.max = 9223372036854775807 := by decide
  unfold In64; simp [Lit.wf, h1, h2]
theorem wrap_add {z : Int} (a b : Int) (e : a + b = z) (h1 : -9223372036854775808 ≤ z) (h2 : z ≤ 9223372036854775807) : IntKind.i64.wrap (a + b) = z := by rw [e]; exact wrap_in h1 h2
/-- What a crash leaves. -/
def CrashM (w : World) (S : Nat → Prop) (m g bp cap : Nat) (fd : Bool) (L : List ByteArray) (e : Ending) (w' : World) : Prop :=
  e = .returned (.tuple #[]) ∧ Stp S S w w' ∧ PBox w' S m g bp cap fd L noV noF
set_option maxRecDepth 100000 in
set_option maxHeartbeats 4000000 in
theorem crash_any {w : World} {S : Nat → Prop} {m g bp cap : Nat} {fd : Bool} {L : List ByteArray} {V : Int → List ByteArray} {F : Int → Value} (h : PBox w S m g bp cap fd L V F) (vc : Value) (ch : List Int)
    (hc : Reads w vc (ch.map (.int .i64))) (hcS : ch ≠ [] → ∀ b, vc.ownBlock = some b → ¬ S b) (hcI : ∀ c ∈ ch, In64 c) (hcn : ch.length ≤ 140737488355328) (hvn : ∀ z, (V z).length ≤ 1000000000000) :
    Calls Tryz.prog 73 #[.pointer (some ⟨m, 0, none⟩), vc] w (CrashM w S m g bp cap fd (crash L V ch)) := by
  have cp := pend_any h
  have hlenc := fun W => hc.len_run (P := Tryz.prog) Tryz.underlying24 3 W
  rw [List.length_map] at hlenc
  obtain ⟨P, hP⟩ : ∃ P, pend L.length V = P := ⟨_, rfl⟩
  have hPn : P.length ≤ 256 := by rw [← hP]; exact Nat.le_trans (pend_le _ _) h.n2
  have hPm : ∀ x ∈ P, ∃ i : Nat, i < L.length ∧ x = (i : Int) := fun x hx => by rw [← hP] at hx; obtain ⟨i, a, _, b⟩ := mem_pend.1 hx; exact ⟨i, a, b⟩
  have hcr : Hid (crash L V ch = crL L V ch P P.length) := Lib.hid (by unfold crash; rw [hP])
  rw [hP] at cp
  have hN2 := h.n2
  clear hP
  go_enter Tryz.func73, Tryz.ntmps73
  go_wp2_with (fail)
  refine cp.mono ?_
  rintro e w1 ⟨vp, rfl, hb1, hO⟩
  clear cp
  have h1 := h.below hb1
  have hc1 : Reads w1 vc (ch.map (.int .i64)) := hc.below hb1
  have hlt := h.lt
  have hS1 := Lib.hid (Stp.quiet (S := S) hb1)
  have hOb := hO.o.lt
  have hlenp := fun W => hO.reads.len_run (P := Tryz.prog) Tryz.underlying24 3 W
  rw [List.length_map] at hlenp
  have hR1 := hO.reads
  have hpS : ∀ b, vp.ownBlock = some b → ¬ S b := fun b hb hs => by have := hlt b hs; have := (hOb b hb).1; omega
  clear h hc hO hb1 hlt hOb
  go_wp2_with (fail)
  go_loopw [12] (fun t wr => ∃ k : Nat, k ≤ P.length ∧ t = .int .i64 (k : Int) ∧ Stp S S w1 wr ∧ PBox wr S m g bp cap fd (crL L V ch P k) V F) (fun t _ => P.length - (RowKit.intOf t).toNat)
  case atStart => exact ⟨0, by omega, rfl, Stp.refl _ _, h1⟩
  case round =>
    obtain ⟨k, hk, rfl, hSt, hB⟩ := hrel
    by_cases hlt : k < P.length
    · have hcr1 : Reads wr vc (ch.map (.int .i64)) := by
        by_cases e : ch = []
        · rcases hc1 with x | ⟨b, off, c, x, _, _⟩
          · exact .inl x
          · rw [e] at x; exact .inl ⟨⟨_, _, x⟩, by rw [e]; rfl⟩
        · exact hc1.at (fun b hb => hSt.oth b (hc1.blk (by simpa using e) b hb) (hcS e b hb)) hSt.b0.size
      have hpr : Reads wr vp (P.map (.int .i64)) := hR1.at (fun b hb => hSt.oth b (hR1.blk (by intro e; simp at e; rw [e] at hlt; exact absurd hlt (Nat.not_lt_zero _)) b hb) (hpS b hb)) hSt.b0.size
      obtain ⟨pa, pcap, pv, pcell⟩ := hpr.nums
      obtain ⟨pb, po, rfl, plt, pc⟩ := pcell k hlt
      subst pv
      obtain ⟨nn, hnn, hnx⟩ := hPm (P.getD k 0) (by rw [List.getD_eq_getElem?_getD, List.getElem?_eq_getElem hlt]; exact List.getElem_mem hlt)
      have hI := in64_nat nn (by omega)
      have c2 := hB.c2
      have hlk := hB.look hI
      have hrow := hB.r nn hI
      have hqn := hvn nn
      have hlenr := fun W => hrow.reads.len_run (P := Tryz.prog) Tryz.underlying127 3 W
      obtain ⟨q, hq⟩ : ∃ q, (V nn).length = q := ⟨_, rfl⟩
      obtain ⟨p, hp⟩ : ∃ p, pickC (chAt ch k) = p := ⟨_, rfl⟩
      obtain ⟨j, hj⟩ : ∃ j, p % (q + 1) = j := ⟨_, rfl⟩
      have hjq : j ≤ q := by have := Nat.mod_lt p (show 0 < q + 1 by omega); omega
      have hJ : chJ V ch P k = j := by unfold chJ; rw [hnx, hq, hp]; exact hj
      have hnext : crL L V ch P (k + 1) = if j = 0 then crL L V ch P k else (crL L V ch P k).set nn ((V nn).getD (j - 1) zero128) := by
        show (if chJ V ch P k = 0 then _ else _) = _
        rw [hJ, hnx, Int.toNat_natCast]
      have hLn := crL_len L V ch P k
      rw [hnx] at pc
      rw [hq] at hlenr hqn
      have hp64 : (p : Int) ≤ 9223372036854775807 := by
        rw [← hp]; unfold pickC chAt
        by_cases e : k < ch.length
        · have := in64_iff.1 (hcI (ch.getD k 0) (by rw [List.getD_eq_getElem?_getD, List.getElem?_eq_getElem e]; exact List.getElem_mem e))
          split <;> omega
        · rw [List.getD_eq_getElem?_getD, List.getElem?_eq_none (by omega)]; simp
      have wq : IntKind.i64.wrap ((q : Int) + 1) = (q : Int) + 1 := wrap_in (by omega) (by omega)
      have hmod : ((p : Int)).tmod ((q : Int) + 1) = (j : Int) := by
        rw [Int.tmod_eq_emod_of_nonneg (by omega), ← hj]; exact (Int.natCast_emod p (q + 1)).symm
      have hmod2 : ((p : Int)) % ((q : Int) + 1) = (j : Int) := by rw [← hj]; exact (Int.natCast_emod p (q + 1)).symm
      have hq0 : ¬ ((q : Int) + 1 = 0) := by omega
      have hfin : ∃ W, Stp S S w1 W ∧ True := ⟨wr, hSt, trivial⟩
      have k1 : (k : Int) < (P.length : Int) := by omega
      have k2 : (k : Int) + 1 ≤ 300 := by omega
      clear hcI hPm hvn hR1 hc1 h1 hpr pcell hfin hnx hJ plt
      have hpk := Lib.hid hp
      have hqh := Lib.hid hq
      have hjh := Lib.hid hj
      have hSth := Lib.hid hSt
      have hBh := Lib.hid hB
      have hnexth := Lib.hid hnext
      have hroH := Lib.hid hrow
      have hLnH := Lib.hid hLn
      clear hp hq hj hSt hB hnext hrow hLn
      obtain ⟨c, hcc⟩ : ∃ c, chAt ch k = c := ⟨_, rfl⟩
      have hcp : pickC c = p := by rw [← hcc]; exact hpk.out
      have hccH := Lib.hid hcc
      clear hcc
      clear hlk hlenr hmod hmod2 hq0 wq
      go_upto_if 20 with (fail)
      go_cut [6, 20] from 21 to 24 (fun t _ wx => t = .int .i64 c ∧ wr = wx)
      case first =>
        clear pc c2 hlenp
        by_cases e : k < ch.length
        · obtain ⟨ca, ccap, rfl, ccell⟩ := hcr1.nums
          obtain ⟨cb, co, rfl, clt, cc⟩ := ccell k e
          have hcv : ch.getD k 0 = c := hccH.out
          rw [hcv] at cc
          have t1 : decide ((k : Int) < (ch.length : Int)) = true := decide_eq_true (by omega)
          have k3 : (k : Int) < (ch.length : Int) := by omega
          clear hcv e clt ccell hcr1 t1
          go_wp2_with (fail)
          go_meet
          exact ⟨rfl, rfl⟩
        · have hc0 : c = 0 := by
            have := hccH.out
            unfold chAt at this
            rw [List.getD_eq_getElem?_getD, List.getElem?_eq_none (by omega)] at this
            rw [← this]; rfl
          subst hc0
          have k3 : ¬ ((k : Int) < (ch.length : Int)) := by omega
          clear e
          go_wp2_with (fail)
          go_meet
          exact ⟨rfl, rfl⟩
      case rest =>
      obtain ⟨rfl, rfl⟩ := hcut
      clear hcr1 hlenc pc
      go_upto_if 26 with (fail)
      go_cut [6, 26] from 27 to 29 (fun t _ wx => t = .int .i64 (p : Int) ∧ wr = wx)
      case first =>
        by_cases hneg : c < 0
        · have t2 : decide (c < 0) = true := decide_eq_true hneg
          have hcq : c + 1 = -(p : Int) := by unfold pickC at hcp; rw [if_pos hneg] at hcp; omega
          have hw1 : IntKind.i64.wrap (c + 1) = -(p : Int) := wrap_add _ _ hcq (by omega) (by omega)
          have hw2 : IntKind.i64.wrap (p : Int) = (p : Int) := wrap_in (by omega) (by omega)
          clear t2 hcp hcq
          go_wp2_with (fail)
          go_meet
          exact ⟨rfl, rfl⟩
        · have t2 : decide (c < 0) = false := decide_eq_false hneg
          have hcq : c = (p : Int) := by unfold pickC at hcp; rw [if_neg hneg] at hcp; omega
          clear t2 hcp hccH
          subst hcq
          go_wp2_with (fail)
          go_meet
          exact ⟨rfl, rfl⟩
      case rest =>
      obtain ⟨rfl, rfl⟩ := hcut
      clear hcp
      have wq : IntKind.i64.wrap ((q : Int) + 1) = (q : Int) + 1 := wrap_in (by omega) (by omega)
      have hmod2 : ((p : Int)) % ((q : Int) + 1) = (j : Int) := by rw [← hjh.out]; exact (Int.natCast_emod p (q + 1)).symm
      have hmod : ((p : Int)).tmod ((q : Int) + 1) = (j : Int) := by rw [Int.tmod_eq_emod_of_nonneg (by omega)]; exact hmod2
      have hq0 : ¬ ((q : Int) + 1 = 0) := by omega
      have hlk := hBh.out.look hI
      have hlenr : ∀ W, (Builtin.len_ #[127] 3 #[F nn]).run Tryz.prog W = .ok (.int .i64 (q : Int)) W := fun W => by
        have := hroH.out.reads.len_run (P := Tryz.prog) Tryz.underlying127 3 W
        rw [hqh.out] at this; exact this
      by_cases hj0 : j = 0
      · subst hj0
        have hrel2 : Hid (Stp S S w1 wr ∧ PBox wr S m g bp cap fd (crL L V ch P (k + 1)) V F) := Lib.hid ⟨hSth.out, by rw [hnexth.out, if_pos rfl]; exact hBh.out⟩
        clear hroH hlt
        go_wp2_with (fail)
        go_roundw
        case rel => exact ⟨k + 1, by have := hk; omega, by go_num, hrel2.out.1, hrel2.out.2⟩
        case measure => simp [RowKit.intOf]; omega
      · obtain ⟨jj, rfl⟩ : ∃ jj, j = jj + 1 := ⟨j - 1, by omega⟩
        have hq' : (V nn).length = q := hqh.out
        have hjl : jj < (V nn).length := by omega
        obtain ⟨gg, cv, hF, _, _⟩ := hroH.out.form (by omega)
        have hrow := hroH.out
        rw [hF] at hrow hlk
        rw [hF] at hlenr
        rw [hq'] at hrow hlk hlenr
        have hBd := hBh.out.drew
        have c1 := hBh.out.c1
        have c1d := hBd.c1
        have hld : ∀ W, PBox W S m g bp cap fd (crL L V ch P k) V F → (Instr.loadAt 132 (.pointer (some ⟨gg, jj * 128, none⟩))).run Tryz.prog W = .ok (.agg (contL (V nn)[jj]).toArray) W := fun W hW => by
          have := hW.r nn hI
          rw [hF, hq'] at this
          exact row_load (v := F nn) this hjl
        have hnl : nn < (crL L V ch P k).length := by rw [hLnH.out]; exact hnn
        obtain ⟨hst, hB2, hS2⟩ := hBd.setL nn hnl (V nn)[jj] (hBd.zv nn _ (List.getElem_mem hjl))
        have hrel2 : Hid (Stp S S w1 (wr.drew.setCells g (nn * 128) (contL (V nn)[jj])) ∧ PBox (wr.drew.setCells g (nn * 128) (contL (V nn)[jj])) S m g bp cap fd (crL L V ch P (k + 1)) V F) := by
          refine Lib.hid ⟨hSth.out.trans ⟨⟨hS2.b0.os, hS2.b0.tape, hS2.b0.output, hS2.b0.size, hS2.b0.block⟩, hS2.oth, hS2.grow⟩, ?_⟩
          rw [hnexth.out, if_neg (by omega), show jj + 1 - 1 = jj by omega, List.getD_eq_getElem?_getD, List.getElem?_eq_getElem hjl]
          exact hB2
        have hld0 := hld _ hBd
        have c12 : (wr.drew.setCells g (nn * 128) (contL (V nn)[jj])).cell? ⟨m, 1, none⟩ = some (.slice (some ⟨g, 0, none⟩) (crL L V ch P k).length cap) := by
          have := hB2.c1
          rw [List.length_set] at this; exact this
        have hld2 : (Instr.loadAt 132 (.pointer (some ⟨gg, jj * 128, none⟩))).run Tryz.prog (wr.drew.setCells g (nn * 128) (contL (V nn)[jj])) = .ok (.agg (contL (V nn)[jj]).toArray) (wr.drew.setCells g (nn * 128) (contL (V nn)[jj])) := by
          have := hB2.r nn hI
          rw [hF, hq'] at this
          exact row_load (v := F nn) this hjl
        have x1 : (nn : Int) < ((crL L V ch P k).length : Int) := by omega
        have x2 : (jj : Int) < (q : Int) := by omega
        have x3 : (0 : Int) < (jj : Int) + 1 := by omega
        have x4 : IntKind.i64.wrap (jj : Int) = (jj : Int) := wrap_in (by omega) (by omega)
        have x5 : (0 : Int) ≤ (jj : Int) := by omega
        clear hB2 hS2 hld hBd hrow hroH hF hq' hnl hlt hj0
        generalize (crL L V ch P k).length = LL at *
        generalize (V nn)[jj] = tt at *
        clear hjl
        generalize contL tt = cs at *
        generalize wr.drew.setCells g (nn * 128) cs = wz at *
        go_wp2_with (fail)
        refine wp_region_held_drew (S := fun W => W.cell? ⟨m, 1, none⟩ = some (.slice (some ⟨g, 0, none⟩) LL cap) ∧ (Instr.loadAt 132 (.pointer (some ⟨gg, jj * 128, none⟩))).run Tryz.prog W = .ok (.agg cs.toArray) W) (by kernel_rfl) ⟨c1d, hld0⟩ (fun hHeld => ?_)
        refine wpAnyH_takeD (i := 0) (some 43) rfl (by kernel_rfl) (by kernel_rfl) (by kernel_rfl) rfl (fun _ _ _ h => h) (Or.inl ⟨by rfl, by intro w hSw; go_simp; try rfl⟩) (by assumption) ?_
        simp only [Act.put, List.setIfInBounds_toArray, List.set_cons_zero, List.set_cons_succ]
        refine wpAnyH_takeD (i := 1) (some 44) rfl (by kernel_rfl) (by kernel_rfl) (by kernel_rfl) rfl (fun _ _ _ h => h) (Or.inl ⟨by rfl, by intro w hSw; go_simp; try rfl⟩) (by assumption) ?_
        simp only [Act.put, List.setIfInBounds_toArray, List.set_cons_zero, List.set_cons_succ]
        refine wpAnyH_takeD (i := 2) (some 45) rfl (by kernel_rfl) (by kernel_rfl) (by kernel_rfl) rfl (fun _ _ _ h => h) (Or.inl ⟨by rfl, by intro w hSw; go_simp; try rfl⟩) (by assumption) ?_
        simp only [Act.put, List.setIfInBounds_toArray, List.set_cons_zero, List.set_cons_succ]
        refine wpAnyH_takeD (i := 3) (some 46) rfl (by kernel_rfl) (by kernel_rfl) (by kernel_rfl) rfl (fun _ _ _ h => h) (Or.inl ⟨by rfl, by intro w hSw; replace hSw := hSw.1; go_simp; try rfl⟩) (by assumption) ?_
        simp only [Act.put, List.setIfInBounds_toArray, List.set_cons_zero, List.set_cons_succ]
        refine wpAnyH_takeD (i := 4) (some 47) rfl (by kernel_rfl) (by kernel_rfl) (by kernel_rfl) rfl (fun _ _ _ h => h) (Or.inl ⟨by rfl, by intro w hSw; go_simp; try rfl⟩) (by assumption) ?_
        simp only [Act.put, List.setIfInBounds_toArray, List.set_cons_zero, List.set_cons_succ]
        refine wpAnyH_takeD (i := 5) (some 48) rfl (by kernel_rfl) (by kernel_rfl) (by kernel_rfl) rfl (fun _ _ _ h => h) (Or.inl ⟨by rfl, by intro w hSw; go_simp; try rfl⟩) (by assumption) ?_
        simp only [Act.put, List.setIfInBounds_toArray, List.set_cons_zero, List.set_cons_succ]
        refine wpAnyH_takeD (i := 6) (some 49) rfl (by kernel_rfl) (by kernel_rfl) (by kernel_rfl) rfl (fun _ _ _ h => h) (Or.inl ⟨by rfl, by intro w hSw; go_simp; try rfl⟩) (by assumption) ?_
        simp only [Act.put, List.setIfInBounds_toArray, List.set_cons_zero, List.set_cons_succ]
        refine wpAnyH_takeD (i := 7) (some 50) rfl (by kernel_rfl) (by kernel_rfl) (by kernel_rfl) rfl (fun _ _ _ h => h) (Or.inl ⟨by rfl, by intro w hSw; go_simp; try rfl⟩) (by assumption) ?_
        simp only [Act.put, List.setIfInBounds_toArray, List.set_cons_zero, List.set_cons_succ]
        refine wpAnyH_takeD (i := 8) (some 51) rfl (by kernel_rfl) (by kernel_rfl) (by kernel_rfl) rfl (fun _ _ _ h => h) (Or.inl ⟨by rfl, by intro w hSw; go_simp; try rfl⟩) (by assumption) ?_
        simp only [Act.put, List.setIfInBounds_toArray, List.set_cons_zero, List.set_cons_succ]
        refine wpAnyH_takeD (i := 9) (some 52) rfl (by kernel_rfl) (by kernel_rfl) (by kernel_rfl) rfl (fun _ _ _ h => h) (yieldsIf_load_run (by rfl) _ rfl rfl (fun w hS => hS.2)) (by assumption) ?_
        simp only [Act.put, List.setIfInBounds_toArray, List.set_cons_zero, List.set_cons_succ]
        refine wpAnyH_takeD (i := 10) (some 53) rfl (by kernel_rfl) (by kernel_rfl) (by kernel_rfl) rfl (fun _ _ _ h => h) (Or.inl ⟨by rfl, by intro w hSw; go_simp; try rfl⟩) (by assumption) ?_
        simp only [Act.put, List.setIfInBounds_toArray, List.set_cons_zero, List.set_cons_succ]
        refine wpAnyH_ready (rs := [11]) (by kernel_rfl) (by simp) (AllReadyH.cons rfl (fun K hK => ?_) AllReadyH.nil)
        refine step_store_run (d := none) hst _ _ rfl rfl rfl rfl rfl ?_
        refine hK.out _ _ ⟨c12, hld2⟩ (fun hHeld => ?_)
        clear hK
        simp only [Act.put, List.setIfInBounds_toArray, List.set_cons_zero, List.set_cons_succ]
        refine wpAnyH_done (by kernel_rfl) ?_ _
        go_wp2_with (fail)
        go_roundw
        case rel => exact ⟨k + 1, by have := hk; omega, by go_num, hrel2.out.1, hrel2.out.2⟩
        case measure => simp [RowKit.intOf]; omega
    · obtain rfl : k = P.length := by omega
      obtain ⟨w', hcl, hB2, hS2⟩ := hB.clear 0
      have c2 := hB.c2
      have hfin : Hid (CrashM w S m g bp cap fd (crash L V ch) (.returned (.tuple #[])) w') := Lib.hid ⟨rfl, (hS1.out.trans hSt).trans hS2, by rw [hcr.out]; exact hB2⟩
      clear hB hB2 hS2 hSt
      go_wp2_with (fail)
      go_end0
      exact hfin.out
end Go.Proofs.YtfadglcpapiklaaGreatDoor
end
section
namespace Go.Proofs.YtfadglcpapiklaaGreatDoor
open Go.RowKit
set_option linter.unusedVariables false
set_option linter.unusedSimpArgs false

def fil (k : Nat) (x : UInt8) : List UInt8 := (List.range 128).map fun j => if j < k then x else 0
/-- A raw number as a text. -/
def sec (n : Int) : ByteArray := lineOf (fil 128 (UInt8.ofNat (pickC n % 256)))
end Go.Proofs.YtfadglcpapiklaaGreatDoor
end
section
namespace Go.Proofs.YtfadglcpapiklaaGreatDoor
open Go.RowKit
set_option linter.unusedVariables false
set_option linter.unusedSimpArgs false

def Ends (w : World) (b : Bool) (e : Ending) (w' : World) : Prop := e = .returned (.bool b) ∧ Below w.heap.size w w'
/-- A member that was made behind w. -/
structure MB (w : World) (w' : World) (m g bp cap : Nat) (L : List ByteArray) (V : Int → List ByteArray) : Prop where
  b : Below w.heap.size w w'
  h : ∃ S F, (∀ k, S k → w.heap.size ≤ k) ∧ PBox w' S m g bp cap false L V F
theorem MB.after {w w1 w2 : World} {m g bp cap : Nat} {L : List ByteArray} {V : Int → List ByteArray} (h : MB w w1 m g bp cap L V) (hb : Below w1.heap.size w1 w2) : MB w w2 m g bp cap L V := by
  obtain ⟨S, F, h1, h2⟩ := h.h
  exact ⟨h.b.trans (hb.mono h.b.size), S, F, h1, h2.below hb⟩
end Go.Proofs.YtfadglcpapiklaaGreatDoor
end
section
namespace Go.Proofs.YtfadglcpapiklaaGreatDoor
open Go.RowKit
set_option linter.unusedVariables false
set_option linter.unusedSimpArgs false

theorem flush_dead {w : World} {S : Nat → Prop} {m g bp cap : Nat} {L : List ByteArray} {V : Int → List ByteArray} {F : Int → Value} (h : PBox w S m g bp cap true L V F) :
    Calls Tryz.prog 72 #[.pointer (some ⟨m, 0, none⟩)] w fun e w' => e = .returned (.int .i64 80) ∧ w = w' := by
  have c0 := h.c0
  clear h
  go_enter Tryz.func72, Tryz.ntmps72
  go_wp2
  go_ret
  exact ⟨rfl, rfl⟩
/-- What lasts behind a flush of the keys that are told. -/
def flL (L : List ByteArray) (V : Int → List ByteArray) (d : Int → Bool) : List ByteArray := (List.range L.length).map fun i : Nat => if d (i : Int) then lastOf (V (i : Int)) (L.getD i zero128) else L.getD i zero128
theorem flL_len (L : List ByteArray) (V : Int → List ByteArray) (d : Int → Bool) : (flL L V d).length = L.length := by simp [flL]
theorem flL_none (L : List ByteArray) (V : Int → List ByteArray) (d : Int → Bool) (h : ∀ i : Nat, i < L.length → d (i : Int) = false) : flL L V d = L := by
  unfold flL
  apply List.ext_getElem?
  intro j
  by_cases hj : j < L.length
  · rw [List.getElem?_map, List.getElem?_range hj, Option.map_some, h j hj, List.getD_eq_getElem?_getD, List.getElem?_eq_getElem hj]; rfl
  · rw [List.getElem?_eq_none (by simp; omega), List.getElem?_eq_none (by omega)]
theorem flL_set (L : List ByteArray) (V : Int → List ByteArray) (d e : Int → Bool) (n : Nat) (hn : n < L.length) (s : ByteArray) (hs : lastOf (V (n : Int)) (L.getD n zero128) = s) (he : e (n : Int) = true) (ho : ∀ i : Nat, i ≠ n → i < L.length → e (i : Int) = d (i : Int)) :
    (flL L V d).set n s = flL L V e := by
  unfold flL
  apply List.ext_getElem?
  intro j
  rw [List.getElem?_set]
  by_cases hj : j < L.length
  · by_cases h : n = j
    · subst h
      rw [if_pos rfl, if_pos (by simp; omega), List.getElem?_map, List.getElem?_range hj, Option.map_some, he]
      simp only [if_true]; rw [hs]
    · rw [if_neg h, List.getElem?_map, List.getElem?_range hj, List.getElem?_map, List.getElem?_range hj, Option.map_some, Option.map_some, ho j (Ne.symm h) hj]
  · rw [if_neg (by omega), List.getElem?_eq_none (by simp; omega), List.getElem?_eq_none (by simp; omega)]
/-- What lasts behind a flush. -/
def flush (L : List ByteArray) (V : Int → List ByteArray) : List ByteArray := flL L V fun _ => true
end Go.Proofs.YtfadglcpapiklaaGreatDoor
end
section
namespace Go.Proofs.YtfadglcpapiklaaGreatDoor
open Go.RowKit
set_option linter.unusedVariables false
set_option linter.unusedSimpArgs false
set_option maxRecDepth 100000

def MapSays (D : DataW Value) (V : Int → List ByteArray) (F : Int → Value) : Prop := ∀ z, In64 z → Maps.has D (kz z) = zOf V z ∧ D.atKey (kz z) (.held nilS) = .held (F z)
theorem flL_same (L : List ByteArray) (V : Int → List ByteArray) (d : Int → Bool) (h : ∀ i : Nat, i < L.length → V (i : Int) ≠ [] → d (i : Int) = true) : flL L V d = flush L V := by
  unfold flush flL
  apply List.map_congr_left
  intro i hi
  have hi := List.mem_range.1 hi
  by_cases e : V (i : Int) = []
  · rw [e, lastOf_nil]; simp
  · rw [h i hi e]
/-- The step of one key. -/
theorem PBox.flStep {w : World} {S : Nat → Prop} {m g bp cap : Nat} {L : List ByteArray} {V : Int → List ByteArray} {F : Int → Value} (d : Int → Bool) (h : PBox w S m g bp cap false (flL L V d) V F) (n : Nat) (hnl : n < L.length) (hVx : V n ≠ []) (hvn : ∀ z, (V z).length ≤ 1000000000000) :
    ∃ (gg cv k : Nat) (cs : List Value) (wz : World), F n = .slice (some ⟨gg, 0, none⟩) (k + 1) cv ∧ k ≤ 1000000000000 ∧ cs.length = 128 ∧
      (∀ W, (Builtin.len_ #[127] 3 #[.slice (some ⟨gg, 0, none⟩) (k + 1) cv]).run Tryz.prog W = .ok (.int .i64 ((k : Int) + 1)) W) ∧
      w.drew.cell? ⟨m, 1, none⟩ = some (.slice (some ⟨g, 0, none⟩) L.length cap) ∧
      (Instr.loadAt 132 (.pointer (some ⟨gg, k * 128, none⟩))).run Tryz.prog w.drew = .ok (.agg cs.toArray) w.drew ∧
      (Instr.storeAt 132 (.pointer (some ⟨g, n * 128, none⟩)) (.agg cs.toArray)).run Tryz.prog w.drew = .ok () wz ∧
      wz.cell? ⟨m, 1, none⟩ = some (.slice (some ⟨g, 0, none⟩) L.length cap) ∧
      (Instr.loadAt 132 (.pointer (some ⟨gg, k * 128, none⟩))).run Tryz.prog wz = .ok (.agg cs.toArray) wz ∧
      PBox wz S m g bp cap false (flL L V (updZ d n true)) V F ∧ Stp S S w wz ∧ w.grownBy wz (some g) := by
  have hn2 := h.n2
  rw [flL_len] at hn2
  have hI := in64_nat n (by omega)
  obtain ⟨q, hq⟩ : ∃ q, (V n).length = q + 1 := ⟨(V n).length - 1, by have := List.length_pos_iff.2 hVx; omega⟩
  have hql : q < (V n).length := by omega
  have hqn : q ≤ 1000000000000 := by have := hvn n; omega
  obtain ⟨gg, cv, hF, _, _⟩ := (h.r n hI).form (by omega)
  have hrow := h.r n hI
  rw [hF] at hrow
  rw [hq] at hrow hF
  have hBd := h.drew
  have hld : ∀ W, PBox W S m g bp cap false (flL L V d) V F → (Instr.loadAt 132 (.pointer (some ⟨gg, q * 128, none⟩))).run Tryz.prog W = .ok (.agg (contL (V n)[q]).toArray) W := fun W hW => by
    have := hW.r n hI
    rw [hF] at this
    exact row_load (v := F n) this hql
  obtain ⟨hst, hB3, hS3⟩ := hBd.setL n (by rw [flL_len]; exact hnl) (V n)[q] (hBd.zv n _ (List.getElem_mem hql))
  have hset : (flL L V d).set n (V n)[q] = flL L V (updZ d n true) := flL_set L V d _ n hnl _ (by rw [lastOf_get _ _ hVx (by omega)]; congr 1; omega) (updZ_same _ _ _) (fun i hi _ => updZ_other _ _ _ _ (by omega))
  rw [hset] at hB3
  obtain ⟨k1, k2, k3, k4, k5⟩ := setCells_step g (contL (V n)[q]) (n * 128) w.drew
  refine ⟨gg, cv, q, contL (V n)[q], w.drew.setCells g (n * 128) (contL (V n)[q]), hF, hqn, contL_len _, fun W => ?_, ?_, hld _ hBd, hst, ?_, ?_, hB3, ⟨⟨hS3.b0.os, hS3.b0.tape, hS3.b0.output, hS3.b0.size, hS3.b0.block⟩, hS3.oth, hS3.grow⟩, ⟨k1, k2, k3, Nat.le_of_eq k4.symm, fun k _ hne => k5 k (fun e => hne (by rw [e]))⟩⟩
  · have := hrow.reads.len_run (P := Tryz.prog) Tryz.underlying127 3 W
    rw [hq] at this; exact this
  · have := hBd.c1; rw [flL_len] at this; exact this
  · have := hB3.c1; rw [flL_len] at this; exact this
  · have := hB3.r n hI
    rw [hF] at this
    exact row_load (v := F n) this hql
set_option maxRecDepth 100000 in
set_option maxHeartbeats 4000000 in
theorem flush_any {w : World} {S : Nat → Prop} {m g bp cap : Nat} {L : List ByteArray} {V : Int → List ByteArray} {F : Int → Value} (h : PBox w S m g bp cap false L V F) (hvn : ∀ z, (V z).length ≤ 1000000000000) :
    Calls Tryz.prog 72 #[.pointer (some ⟨m, 0, none⟩)] w fun e w' => e = .returned (.int .i64 0) ∧ Stp S S w w' ∧ PBox w' S m g bp cap false (flush L V) noV noF := by
  have c0 := h.c0
  have c2 := h.c2
  obtain ⟨D, hown, hD⟩ := h.p
  replace hD : MapSays D V F := hD
  have hLn := h.n2
  go_enter Tryz.func72, Tryz.ntmps72
  go_wp2_with (first
    | (at_range; refine wpList_range_own _ rfl _ 128 rfl 3 127 (Maps.int_keyed Tryz.underlying3) Tryz.underlying128 _ bp L.length D rfl hown ?_; intro w0 hrg0 hg0 hs0)
    | go_in)
  go_frame
  have hB0 : PBox w0 S m g bp cap false L V F := h.heap (fun k hk => hg0.block k (h.lt k hk) (by simp)) hg0.size
  have hSt0 : Stp S S w w0 := ⟨⟨hg0.os, hg0.tape, hg0.output, hg0.size, fun k hk => absurd hk (Nat.not_lt_zero _)⟩, fun k hk _ => hg0.block k hk (by simp), fun k hk => .inl hk⟩
  have hrS : ¬ S w.heap.size := fun hs => by have := h.lt _ hs; omega
  clear hown c0 c2 h hg0 hs0
  go_loopw [3] (fun _ wr => ∃ (left : Lit → Bool) (cnt : Nat) (d : Int → Bool), wr.ranges Tryz.prog 3 RV bp w.heap.size L.length D left cnt ∧ (∀ z, In64 z → zOf V z = true → left (kz z) = !(d z)) ∧ PBox wr S m g bp cap false (flL L V d) V F ∧ Stp S S w wr)
    (fun _ wr => wr.rangeLeft bp w.heap.size)
  case atStart => exact ⟨_, _, fun _ => false, hrg0, fun z hz hv => by rw [(hD z hz).1, hv]; rfl, by rw [flL_none _ _ _ (fun _ _ => rfl)]; exact hB0, hSt0⟩
  case round =>
    clear hB0 hSt0 hrg0
    obtain ⟨left, cnt, d, hrg, hleft, hB, hSt⟩ := hrel
    go_wp2_with (first
      | (at_next; refine wpList_next_ranges _ rfl _ rfl 3 (Maps.int_keyed Tryz.underlying3) RV (Value.int .i64) id (fun key kl hk => by obtain ⟨x, hx, _⟩ := Maps.keyOf_int_inv Tryz.underlying3 hk; exact ⟨x, hx⟩) (fun v _ _ => ⟨v, rfl⟩) bp w.heap.size L.length _ _ _ rfl hrg ?_ ?_)
      | go_in)
    · intro hc0 hl0
      have hfl : flL L V d = flush L V := flL_same L V d (fun i hi hv => by
        have := hleft i (in64_nat i (by omega)) (by unfold zOf; cases hq : V (i : Int) with
          | nil => exact absurd hq hv
          | cons a b => rfl)
        rw [hl0] at this
        cases hd : d (i : Int) with
        | true => rfl
        | false => rw [hd] at this; simp at this)
      obtain ⟨w', hcl, hB2, hS2⟩ := hB.clear 0
      have c2 := hB.c2
      rw [hfl] at hB2
      have hfin : Hid (Stp S S w w' ∧ PBox w' S m g bp cap false (flush L V) noV noF) := Lib.hid ⟨hSt.trans hS2, hB2⟩
      clear hB hB2 hS2 hSt hl0 hrg hleft hfl
      go_wp2_with (fail)
      go_ret
      exact ⟨rfl, hfin.out⟩
    · intro x c kl yd yp w2 cnt2 hkey hlk hv hat hrg2 hlt hg2 hs2 hen
      obtain ⟨x', ex, rfl, hwx⟩ := Maps.keyOf_int_inv Tryz.underlying3 hkey
      obtain rfl : x = x' := by injection ex
      have hxI : In64 x := hwx
      have hfx : Maps.has D (kz x) = true := Maps.has_true_of_atKey hat
      rw [(hD x hxI).1] at hfx
      have hVx : V x ≠ [] := fun e => by unfold zOf at hfx; rw [e] at hfx; simp at hfx
      obtain ⟨hx0, hxn⟩ := hB.keys x hxI hVx
      rw [flL_len] at hxn
      have hyc : yd = .held c := by
        have : some (yd, yp) = some (.held c, []) := hv.symm
        injection this with this
        injection this with this _
      have hFx : F x = c := by
        have := (hD x hxI).2
        rw [show D.atKey (kz x) (.held nilS) = yd from hat _, hyc] at this
        injection this with this; exact this.symm
      obtain ⟨n, hn⟩ : ∃ n : Nat, x = (n : Int) := ⟨x.toNat, (Int.toNat_of_nonneg hx0).symm⟩
      subst hn
      have hnl : n < L.length := by omega
      have hB2 : PBox w2 S m g bp cap false (flL L V d) V F := hB.heap (fun k hk => hg2.block k (hB.lt k hk) (by intro e; injection e with e; exact hrS (by rw [← e]; exact hk))) hg2.size
      have hSt2 : Stp S S w w2 := ⟨⟨hg2.os.trans hSt.b0.os, hg2.tape.trans hSt.b0.tape, hg2.output.trans hSt.b0.output, Nat.le_trans hSt.b0.size hg2.size, fun k hk => absurd hk (Nat.not_lt_zero _)⟩,
        fun k hk hn => (hg2.block k (Nat.lt_of_lt_of_le hk hSt.b0.size) (by simp; omega)).trans (hSt.oth k hk hn), fun k hk => .inl hk⟩
      obtain ⟨gg, cv, k, cs, wz, hF, hkq, hcl, hlenr, c1d, hld0, hst, c12, hld3, hB3, hS3, hgw⟩ := hB2.flStep d n hnl hVx hvn
      rw [hF] at hFx
      subst hFx
      have hrg3 := hrg2.kept hgw (by have := hB.gp; simp; omega) (by intro e; injection e with e; exact hrS (by rw [e]; exact hB.sg))
      have hleft3 : ∀ z, In64 z → zOf V z = true → (left (kz z) && !(kz z).sameKey (kz n)) = !(updZ d n true z) := fun z hz hv => by
        by_cases e : z = (n : Int)
        · subst e
          rw [updZ_same, WideAt.sameKey_self (isKey_kz Tryz.underlying3 hz)]; simp
        · rw [updZ_other _ _ _ _ e, Maps.sameKey_ne (kz_ne e), hleft z hz hv]; simp
      have hSt3 : Stp S S w wz := hSt2.trans hS3
      have hmeas : wz.rangeLeft bp w.heap.size < wr.rangeLeft bp w.heap.size := by rw [hrg3.left_eq, hrg.left_eq]; exact hlt
      have hfin := Lib.hid (And.intro hrg3 (And.intro hleft3 (And.intro hB3 hSt3)))
      have x1 : (n : Int) < (L.length : Int) := by omega
      have x4 : IntKind.i64.wrap (k : Int) = (k : Int) := wrap_in (by omega) (by omega)
      have x5 : (0 : Int) ≤ (k : Int) := by omega
      have x6 : (k : Int) < (k : Int) + 1 := by omega
      have hmH := Lib.hid hmeas
      clear hmeas hrg3 hleft3 hB3 hSt3 hgw hS3 hF hB2 hSt2 hB hSt hrg hrg2 hleft hlk hv hat hyc hfx hVx hkey hs2 hg2 hlt hwx hxI hx0 hxn hvn
      go_wp2_with (fail)
      refine wp_region_held_drew (S := fun W => W.cell? ⟨m, 1, none⟩ = some (.slice (some ⟨g, 0, none⟩) L.length cap) ∧ (Instr.loadAt 132 (.pointer (some ⟨gg, k * 128, none⟩))).run Tryz.prog W = .ok (.agg cs.toArray) W) (by kernel_rfl) ⟨c1d, hld0⟩ (fun hHeld => ?_)
      refine wpAnyH_takeD (i := 0) (some 19) rfl (by kernel_rfl) (by kernel_rfl) (by kernel_rfl) rfl (fun _ _ _ h => h) (Or.inl ⟨by rfl, by intro w hSw; go_simp; try rfl⟩) (by assumption) ?_
      simp only [Act.put, List.setIfInBounds_toArray, List.set_cons_zero, List.set_cons_succ]
      refine wpAnyH_takeD (i := 1) (some 20) rfl (by kernel_rfl) (by kernel_rfl) (by kernel_rfl) rfl (fun _ _ _ h => h) (Or.inl ⟨by rfl, by intro w hSw; go_simp; try rfl⟩) (by assumption) ?_
      simp only [Act.put, List.setIfInBounds_toArray, List.set_cons_zero, List.set_cons_succ]
      refine wpAnyH_takeD (i := 2) (some 21) rfl (by kernel_rfl) (by kernel_rfl) (by kernel_rfl) rfl (fun _ _ _ h => h) (Or.inl ⟨by rfl, by intro w hSw; go_simp; try rfl⟩) (by assumption) ?_
      simp only [Act.put, List.setIfInBounds_toArray, List.set_cons_zero, List.set_cons_succ]
      refine wpAnyH_takeD (i := 3) (some 22) rfl (by kernel_rfl) (by kernel_rfl) (by kernel_rfl) rfl (fun _ _ _ h => h) (Or.inl ⟨by rfl, by intro w hSw; replace hSw := hSw.1; go_simp; try rfl⟩) (by assumption) ?_
      simp only [Act.put, List.setIfInBounds_toArray, List.set_cons_zero, List.set_cons_succ]
      refine wpAnyH_takeD (i := 4) (some 23) rfl (by kernel_rfl) (by kernel_rfl) (by kernel_rfl) rfl (fun _ _ _ h => h) (Or.inl ⟨by rfl, by intro w hSw; go_simp; try rfl⟩) (by assumption) ?_
      simp only [Act.put, List.setIfInBounds_toArray, List.set_cons_zero, List.set_cons_succ]
      refine wpAnyH_takeD (i := 5) (some 24) rfl (by kernel_rfl) (by kernel_rfl) (by kernel_rfl) rfl (fun _ _ _ h => h) (Or.inl ⟨by rfl, by intro w hSw; go_simp; try rfl⟩) (by assumption) ?_
      simp only [Act.put, List.setIfInBounds_toArray, List.set_cons_zero, List.set_cons_succ]
      refine wpAnyH_takeD (i := 6) (some 25) rfl (by kernel_rfl) (by kernel_rfl) (by kernel_rfl) rfl (fun _ _ _ h => h) (Or.inl ⟨by rfl, by intro w hSw; go_simp; try rfl⟩) (by assumption) ?_
      simp only [Act.put, List.setIfInBounds_toArray, List.set_cons_zero, List.set_cons_succ]
      refine wpAnyH_takeD (i := 7) (some 26) rfl (by kernel_rfl) (by kernel_rfl) (by kernel_rfl) rfl (fun _ _ _ h => h) (Or.inl ⟨by rfl, by intro w hSw; go_simp; try rfl⟩) (by assumption) ?_
      simp only [Act.put, List.setIfInBounds_toArray, List.set_cons_zero, List.set_cons_succ]
      refine wpAnyH_takeD (i := 8) (some 27) rfl (by kernel_rfl) (by kernel_rfl) (by kernel_rfl) rfl (fun _ _ _ h => h) (Or.inl ⟨by rfl, by intro w hSw; go_simp; try rfl⟩) (by assumption) ?_
      simp only [Act.put, List.setIfInBounds_toArray, List.set_cons_zero, List.set_cons_succ]
      refine wpAnyH_takeD (i := 9) (some 28) rfl (by kernel_rfl) (by kernel_rfl) (by kernel_rfl) rfl (fun _ _ _ h => h) (Or.inl ⟨by rfl, by intro w hSw; go_simp; try rfl⟩) (by assumption) ?_
      simp only [Act.put, List.setIfInBounds_toArray, List.set_cons_zero, List.set_cons_succ]
      refine wpAnyH_takeD (i := 10) (some 29) rfl (by kernel_rfl) (by kernel_rfl) (by kernel_rfl) rfl (fun _ _ _ h => h) (yieldsIf_load_run (by rfl) _ rfl rfl (fun w hS => hS.2)) (by assumption) ?_
      simp only [Act.put, List.setIfInBounds_toArray, List.set_cons_zero, List.set_cons_succ]
      refine wpAnyH_takeD (i := 11) (some 30) rfl (by kernel_rfl) (by kernel_rfl) (by kernel_rfl) rfl (fun _ _ _ h => h) (Or.inl ⟨by rfl, by intro w hSw; go_simp; try rfl⟩) (by assumption) ?_
      simp only [Act.put, List.setIfInBounds_toArray, List.set_cons_zero, List.set_cons_succ]
      refine wpAnyH_ready (rs := [12]) (by kernel_rfl) (by simp) (AllReadyH.cons rfl (fun K hK => ?_) AllReadyH.nil)
      refine step_store_run (d := none) hst _ _ rfl rfl rfl rfl rfl ?_
      refine hK.out _ _ ⟨c12, hld3⟩ (fun hHeld => ?_)
      clear hK
      simp only [Act.put, List.setIfInBounds_toArray, List.set_cons_zero, List.set_cons_succ]
      refine wpAnyH_done (by kernel_rfl) ?_ _
      go_wp2_with (fail)
      go_roundw
      case rel => exact ⟨_, _, _, hfin.out.1, hfin.out.2.1, hfin.out.2.2.1, hfin.out.2.2.2⟩
      case measure => exact hmH.out
end Go.Proofs.YtfadglcpapiklaaGreatDoor
end
section
namespace Go.Proofs.YtfadglcpapiklaaGreatDoor
open Go.RowKit
set_option linter.unusedVariables false
set_option linter.unusedSimpArgs false
set_option maxRecDepth 100000

theorem zeroCells_rep (c : List Value) (n : Nat) (hc : 0 < c.length) : (Builtin.zeroCells c.toArray n).toList = (List.replicate n c).flatten := by
  apply List.ext_getElem?
  intro i
  induction n generalizing i with
  | zero => simp [Builtin.zeroCells]
  | succ n ih =>
    rw [List.replicate_succ, List.flatten_cons, List.getElem?_append]
    by_cases h : i < c.length
    · have h2 : i < (n + 1) * c.length := by rw [Nat.succ_mul]; omega
      rw [if_pos h]
      simp [Builtin.zeroCells, List.getElem?_range h2, Nat.mod_eq_of_lt h, h]
    · rw [if_neg h, ← ih]
      by_cases h3 : i < (n + 1) * c.length
      · have h4 : i - c.length < n * c.length := by rw [Nat.succ_mul] at h3; omega
        have hm : (i - c.length) % c.length = i % c.length := by
          conv => rhs; rw [show i = (i - c.length) + c.length by omega, Nat.add_mod_right]
        simp [Builtin.zeroCells, List.getElem?_range h3, List.getElem?_range h4, hm]
      · have h4 : ¬ (i - c.length < n * c.length) := by rw [Nat.succ_mul] at h3; omega
        rw [List.getElem?_eq_none (by simp [Builtin.zeroCells]; omega), List.getElem?_eq_none (by simp [Builtin.zeroCells]; omega)]
theorem all_rep : ∀ n, EC.all (List.replicate n zero128) = (List.replicate n (contL zero128)).flatten
  | 0 => rfl
  | n + 1 => by
    rw [List.replicate_succ, List.replicate_succ, EC.all_cons, List.flatten_cons, all_rep n]; rfl
theorem cont_zv : ∀ w, (zeroValue 132).run Tryz.prog w = .ok (.agg (contL zero128).toArray) w := fun w => (zero_of_info cont_zs).1 w
/-- All that lasts is noughts. -/
theorem PBox.clearL {w : World} {S : Nat → Prop} {m g bp cap : Nat} {fd : Bool} {L : List ByteArray} {V : Int → List ByteArray} {F : Int → Value} (h : PBox w S m g bp cap fd L V F) (ty : TypeId) :
    ∃ w', (Builtin.clear_ #[127] ty #[.slice (some ⟨g, 0, none⟩) L.length cap]).run Tryz.prog w = .ok (.tuple #[]) w' ∧ PBox w' S m g bp cap fd (List.replicate L.length zero128) V F ∧ Stp S S w w' := by
  obtain ⟨vs, hvs⟩ : ∃ vs, vs = EC.all (List.replicate L.length zero128) := ⟨_, rfl⟩
  have hvl : vs.length = L.length * 128 := by rw [hvs, EC.all_len, List.length_replicate]; rfl
  have hz : (Builtin.zeroCells (contL zero128).toArray L.length).toList = vs := by rw [hvs, all_rep]; exact zeroCells_rep _ _ (by rw [contL_len]; omega)
  obtain ⟨_, hB, cur, hg, h1, h2, h3, h4⟩ := h.l.row
  obtain ⟨cur', k1, k2, k3⟩ := setCells_heap g 132 vs 0 w cur hg
  obtain ⟨e1, e2, e3, e4, e5⟩ := setCells_step g vs 0 w
  have hcs : L.length * 128 ≤ cur.size := by rw [h3]; exact Nat.mul_le_mul_right _ h1
  have hst := run_storeCells_cells (P := Tryz.prog) g 0 vs 0 w (fun j hj => by
    rw [hvl] at hj
    have : (w.cell? ⟨g, 0 + 0 + j, none⟩) = cur[j]? := by simp [World.cell?, hg]
    rw [this, Array.getElem?_eq_getElem (by omega)]; rfl) (fun j hj => h.l.frozen _) (fun v hv => by
    rw [hvs, all_rep] at hv
    obtain ⟨x, hx, hv⟩ := List.mem_flatten.1 hv
    rw [List.eq_of_mem_replicate hx] at hv
    exact contL_one _ v hv)
  have hn : L.length ≠ 0 := by have := h.n1; omega
  refine ⟨w.setCells g 0 vs, ?_, ⟨?_, ?_, ?_, fun z hz => (h.r z hz).sameAt fun k hk => e5 k (h.sr z hz k hk).2.2.1, h.sm, h.sg, h.sp, h.sr, h.ap, h.mg, h.mp, h.gp, fun k hk => by rw [e4]; exact h.lt k hk, ?_, ?_, ?_, ?_, h.zv⟩, ⟨⟨e1, e2, e3, by omega, fun k hk => absurd hk (Nat.not_lt_zero _)⟩, fun k _ hn => e5 k (fun e => hn (e ▸ h.sg)), fun k hk => .inl hk⟩⟩
  · obtain ⟨mm, hmm⟩ : ∃ mm, L.length = mm + 1 := ⟨L.length - 1, by omega⟩
    rw [hmm] at hz ⊢
    have hzc : (Value.agg (contL zero128).toArray).cells = (contL zero128).toArray := rfl
    have hzz : Tryz.zeroCells132 = (contL zero128).toArray := by
      have := (Tryz.zeroValue132 w).symm.trans (cont_zv w)
      injection this with this
    rw [← hzc, ← hzz] at hz
    simp only [Nat.add_zero] at hst
    simp [Builtin.clear_, run_underlying Tryz.underlying127, hz, hst]
  · rw [e5 m h.mg, List.length_replicate]; exact h.b
  · rw [List.length_replicate]
    have := OwnE.ofRow (E := EC) (l := List.replicate L.length zero128) hB k1 (by rw [List.length_replicate]; exact h1) h2 (k2.trans h3) ?_
    · rw [List.length_replicate] at this; exact this
    · rw [List.length_replicate, ← hvs]
      apply List.ext_getElem?
      intro j
      rw [ec_k]
      by_cases hj : j < L.length * 128
      · rw [List.getElem?_take_of_lt hj, Array.getElem?_toList, k3 j, if_pos ⟨Nat.zero_le _, by omega, by omega⟩, Nat.sub_zero]
      · rw [List.getElem?_eq_none (by rw [List.length_take]; omega), List.getElem?_eq_none (by omega)]
  · rw [List.length_replicate]; exact h.p.heap (e5 bp (Ne.symm h.gp))
  · rw [List.length_replicate]; exact h.keys
  · rw [List.length_replicate]; exact h.n1
  · rw [List.length_replicate]; exact h.n2
  · intro t ht
    rw [List.eq_of_mem_replicate ht]; exact zero128_size
/-- Whether it has failed is set. -/
theorem PBox.setFd {w : World} {S : Nat → Prop} {m g bp cap : Nat} {fd : Bool} {L : List ByteArray} {V : Int → List ByteArray} {F : Int → Value} (h : PBox w S m g bp cap fd L V F) (b : Bool) :
    PBox (w.setCell ⟨m, 0, none⟩ (.bool b)) S m g bp cap b L V F ∧ Stp S S w (w.setCell ⟨m, 0, none⟩ (.bool b)) := by
  have e5 : ∀ k, k ≠ m → (w.setCell ⟨m, 0, none⟩ (.bool b)).heap[k]? = w.heap[k]? := fun k hk => Below.heap_setCell _ _ _ _ hk
  refine ⟨⟨?_, ?_, h.p.heap (e5 bp (Ne.symm h.mp)), fun z hz => (h.r z hz).sameAt fun k hk => e5 k (h.sr z hz k hk).2.1, h.sm, h.sg, h.sp, h.sr, h.ap, h.mg, h.mp, h.gp, fun k hk => by rw [show (w.setCell ⟨m, 0, none⟩ (.bool b)).heap.size = w.heap.size by simp]; exact h.lt k hk, h.keys, h.n1, h.n2, h.zl, h.zv⟩,
    ⟨⟨rfl, rfl, rfl, by simp, fun k hk => absurd hk (Nat.not_lt_zero _)⟩, fun k _ hn => e5 k (fun e => hn (e ▸ h.sm)), fun k hk => .inl hk⟩⟩
  · simp [World.setCell, Array.getElem?_modify, h.b]
  · refine h.l.sameAt fun k hk => ?_
    injection hk with hk; subst hk
    exact e5 _ (Ne.symm h.mg)
/-- What a member without anything pending leaves. -/
def Leaves (w : World) (S : Nat → Prop) (m g bp cap : Nat) (fd : Bool) (L : List ByteArray) (u : Value) (e : Ending) (w' : World) : Prop := e = .returned u ∧ Stp S S w w' ∧ PBox w' S m g bp cap fd L noV noF
set_option maxRecDepth 100000 in
theorem blank_any {w : World} {S : Nat → Prop} {m g bp cap : Nat} {fd : Bool} {L : List ByteArray} {V : Int → List ByteArray} {F : Int → Value} (h : PBox w S m g bp cap fd L V F) :
    Calls Tryz.prog 53 #[.pointer (some ⟨m, 0, none⟩)] w (Leaves w S m g bp cap false (List.replicate L.length zero128) (.tuple #[])) := by
  have c0 := h.c0
  have f0 := h.f 0
  obtain ⟨h1, s1⟩ := h.setFd false
  have c1 := h1.c1
  obtain ⟨w2, hcl1, h2, s2⟩ := h1.clearL 0
  have c2 := h2.c2
  obtain ⟨w3, hcl2, h3, s3⟩ := h2.clear 0
  have hfin : Hid (Leaves w S m g bp cap false (List.replicate L.length zero128) (.tuple #[]) (.returned (.tuple #[])) w3) := Lib.hid ⟨rfl, (s1.trans s2).trans s3, h3⟩
  clear h h1 h2 h3 s1 s2 s3
  go_enter Tryz.func53, Tryz.ntmps53
  go_wp2_with (fail)
  go_end0
  exact hfin.out
set_option maxRecDepth 100000 in
theorem fail_any {w : World} {S : Nat → Prop} {m g bp cap : Nat} {fd : Bool} {L : List ByteArray} {V : Int → List ByteArray} {F : Int → Value} (h : PBox w S m g bp cap fd L V F) :
    Calls Tryz.prog 52 #[.pointer (some ⟨m, 0, none⟩)] w (Leaves w S m g bp cap true (List.replicate L.length zero128) (.tuple #[])) := by
  have cb := blank_any h
  clear h
  go_enter Tryz.func52, Tryz.ntmps52
  go_wp2_with (fail)
  refine cb.mono ?_
  rintro e w1 ⟨rfl, s1, h1⟩
  clear cb
  have c0 := h1.c0
  have f0 := h1.f 0
  obtain ⟨h2, s2⟩ := h1.setFd true
  have hfin : Hid (Leaves w S m g bp cap true (List.replicate L.length zero128) (.tuple #[]) (.returned (.tuple #[])) (w1.setCell ⟨m, 0, none⟩ (.bool true))) := Lib.hid ⟨rfl, s1.trans s2, h2⟩
  clear h1 h2 s1 s2
  go_wp2_with (fail)
  go_end0
  exact hfin.out
end Go.Proofs.YtfadglcpapiklaaGreatDoor
end
section
namespace Go.Proofs.YtfadglcpapiklaaGreatDoor
open Go.RowKit
set_option linter.unusedVariables false
set_option linter.unusedSimpArgs false
set_option maxRecDepth 100000

theorem image_dead {w : World} {S : Nat → Prop} {m g bp cap : Nat} {L : List ByteArray} {V : Int → List ByteArray} {F : Int → Value} (h : PBox w S m g bp cap true L V F) :
    Calls Tryz.prog 62 #[.pointer (some ⟨m, 0, none⟩)] w fun e w' => e = .returned (.slice none 0 0) ∧ w = w' := by
  have c0 := h.c0
  clear h
  go_enter Tryz.func62, Tryz.ntmps62
  go_wp2
  go_ret
  exact ⟨rfl, rfl⟩
theorem str_isI : ∃ i, Tryz.prog.info? 9 = some i ∧ i.zero = some (.string ⟨#[]⟩) ∧ i.size = 1 ∧ i.bytes = 16 := (cont_gen (P := Tryz.prog) (t := 9) (c := .string ⟨#[]⟩) (n := 1) (k := 16) (by kernel_rfl)).2
/-- What lasts, as far as it has been told. -/
def imS (L : List ByteArray) (k : Nat) : List Value := (List.range L.length).map fun j => if j < k then .string (L.getD j zero128) else .string ⟨#[]⟩
theorem imS_len (L : List ByteArray) (k : Nat) : (imS L k).length = L.length := by simp [imS]
theorem imS_zero (L : List ByteArray) : imS L 0 = List.replicate L.length (.string ⟨#[]⟩) := by
  unfold imS
  apply List.ext_getElem?
  intro j
  rw [List.getElem?_replicate]
  by_cases h : j < L.length
  · rw [if_pos h, List.getElem?_map, List.getElem?_range h]; rfl
  · rw [if_neg h, List.getElem?_eq_none (by simp; omega)]
theorem imS_all (L : List ByteArray) : imS L L.length = L.map .string := by
  unfold imS
  apply List.ext_getElem?
  intro j
  by_cases h : j < L.length
  · rw [List.getElem?_map, List.getElem?_range h, List.getElem?_map, List.getElem?_eq_getElem h, Option.map_some, Option.map_some, if_pos h, List.getD_eq_getElem?_getD, List.getElem?_eq_getElem h]; rfl
  · rw [List.getElem?_eq_none (by simp; omega), List.getElem?_eq_none (by simp; omega)]
theorem imS_set (L : List ByteArray) (k : Nat) (h : k < L.length) : (imS L k).set k (.string (L.getD k zero128)) = imS L (k + 1) := by
  unfold imS
  apply List.ext_getElem?
  intro j
  rw [List.getElem?_set]
  by_cases e : k = j
  · subst e
    rw [if_pos rfl, if_pos (by simp; omega), List.getElem?_map, List.getElem?_range h, Option.map_some, if_pos (by omega)]
  · rw [if_neg e]
    by_cases hj : j < L.length
    · rw [List.getElem?_map, List.getElem?_range hj, List.getElem?_map, List.getElem?_range hj, Option.map_some, Option.map_some]
      congr 1
      by_cases h3 : j < k
      · rw [if_pos h3, if_pos (by omega)]
      · rw [if_neg h3, if_neg (by omega)]
    · rw [List.getElem?_eq_none (by simp; omega), List.getElem?_eq_none (by simp; omega)]
/-- What lasts, in a slice of the call's own. -/
def GivesI (w : World) (L : List ByteArray) (e : Ending) (w' : World) : Prop := ∃ x, e = .returned (.slice (some ⟨x, 0, none⟩) L.length L.length) ∧ Below w.heap.size w w' ∧ Own w' w.heap.size 9 (.slice (some ⟨x, 0, none⟩) L.length L.length) (L.map .string)
set_option maxRecDepth 100000 in
set_option maxHeartbeats 2000000 in
theorem image_any {w : World} {S : Nat → Prop} {m g bp cap : Nat} {L : List ByteArray} {V : Int → List ByteArray} {F : Int → Value} (h : PBox w S m g bp cap false L V F) :
    Calls Tryz.prog 62 #[.pointer (some ⟨m, 0, none⟩)] w (GivesI w L) := by
  have c0 := h.c0
  have c1 := h.c1
  have hn1 := h.n1
  have hn2 := h.n2
  obtain ⟨si, s1, s2, s3, s4⟩ := str_isI
  obtain ⟨w1, hmk, hO, hb1⟩ := Own.make_run (P := Tryz.prog) (T := 54) Tryz.underlying54 s1 s2 s3 s4 rfl w L.length (by omega) (by omega)
  obtain ⟨x, hx⟩ : ∃ x, w.heap.size = x := ⟨_, rfl⟩
  rw [hx] at hmk hO
  rw [← imS_zero] at hO
  have h1 := h.below hb1
  have c11 := h1.c1
  have hxS : ¬ S x := fun hs => by have := h.lt x hs; omega
  have hlenw : ∀ W, (Builtin.len_ #[127] 3 #[.slice (some ⟨g, 0, none⟩) L.length cap]).run Tryz.prog W = .ok (.int .i64 (L.length : Int)) W := fun W => by
    have := h.l.reads.len_run (P := Tryz.prog) Tryz.underlying127 3 W
    exact this
  have hz := (zero_of_info cont_zs).1
  have hlx := hx
  clear h s1 s2 s3 s4 hx
  go_enter Tryz.func62, Tryz.ntmps62
  go_wp2_with (fail)
  go_loopw [21] (fun t wr => ∃ k : Nat, k ≤ L.length ∧ t = .int .i64 (k : Int) ∧ Below w.heap.size w wr ∧ PBox wr S m g bp cap false L V F ∧ Own wr x 9 (.slice (some ⟨x, 0, none⟩) L.length L.length) (imS L k)) (fun t _ => L.length - (RowKit.intOf t).toNat)
  case atStart => exact ⟨0, by omega, rfl, hb1, h1, hO⟩
  case round =>
    clear hO h1 hb1 c0 c1 c11 hmk
    obtain ⟨k, hk, rfl, hb, hB, hO⟩ := hrel
    by_cases hlt : k < L.length
    · have k1 : (k : Int) < (L.length : Int) := by omega
      obtain ⟨q, hq⟩ : ∃ q, wr.heap.size = q := ⟨_, rfl⟩
      have hld := hB.loadL hlt
      have hgd : L.getD k zero128 = L[k] := by rw [List.getD_eq_getElem?_getD, List.getElem?_eq_getElem hlt]; rfl
      obtain ⟨t, ht⟩ : ∃ t, L[k] = t := ⟨_, rfl⟩
      obtain ⟨cs, hcs⟩ : ∃ cs, contL t = cs := ⟨_, rfl⟩
      have hcl : cs.length = 128 := by rw [← hcs]; exact contL_len t
      have hsz : t.size = 128 := by rw [← ht]; exact hB.zl _ (List.getElem_mem hlt)
      rw [ht, hcs] at hld
      have hs0 : (storeCells ⟨wr.heap.size, 0, none⟩ cs.toArray.toList 0).run Tryz.prog (wr.alloc (.cells (contL zero128).toArray 132)) = .ok () (wr.alloc (.cells cs.toArray 132)) := by
        rw [← hcs]
        exact run_storeCells_new (P := Tryz.prog) wr 132 (contL zero128).toArray (contL t).toArray (cont_isa t) (by rw [cont_size, cont_size]) (cont_one t)
      have hsl : ∀ W : World, (Instr.sliceAt 132 (.pointer (some ⟨wr.heap.size, 0, none⟩)) none none none).run Tryz.prog W = .ok (.slice (some ⟨wr.heap.size, 0, none⟩) 128 128) W := fun W => by
        simp [Instr.sliceAt, Instr.slice, Instr.sureAddr, run_underlying cont_under, Instr.sliceBounds, Instr.sliceBound, asIntOf, asAddr]
        exact addr_at _ _ _
      have hstr : (convert 113 9 (.slice (some ⟨wr.heap.size, 0, none⟩) 128 128)).run Tryz.prog (wr.alloc (.cells cs.toArray 132)) = .ok (.string t) (wr.alloc (.cells cs.toArray 132)) :=
        cont_str t hsz fun j hj => by rw [World.cell?_alloc_mark, hcs]; simp
      have hba : Below wr.heap.size wr (wr.alloc (.cells cs.toArray 132)) := (Below.refl _ _).alloc (Nat.le_refl _) _
      have hO2 := hO.after hba
      have cc := hO2.cell (i := k) (by rw [imS_len]; exact hlt)
      have ff := hO2.frozen k
      have hO3 := hO2.set k (.string t)
      have hxl := hO.lt
      rw [show Value.string t = .string (L.getD k zero128) by rw [hgd, ht], imS_set L k hlt, hgd, ht] at hO3
      have hB2 := (hB.below hba).heap (w' := (wr.alloc (.cells cs.toArray 132)).setCell ⟨x, k, none⟩ (.string t)) (fun y hy => Below.heap_setCell _ _ _ _ (fun e => hxS (by have e2 : y = x := e; rw [← e2]; exact hy))) (by simp)
      have hb2 := (hb.trans (hba.mono hb.size)).setCell (p := ⟨x, k, none⟩) (by rw [hlx]; exact Nat.le_refl _) (.string t)
      have hfin := Lib.hid (And.intro hb2 (And.intro hB2 hO3))
      generalize (imS L k).getD k Value.nilFunc = old at cc
      clear hO hO2 hO3 hB hB2 hb hb2 hba hgd ht hcs hsz hlt hxl hq
      go_wp2_with (with_reducible refine wpList_load_run hld rfl _ rfl rfl ?_)
      go_roundw
      case rel => exact ⟨k + 1, by omega, by go_num, hfin.out.1, hfin.out.2.1, hfin.out.2.2⟩
      case measure => simp [RowKit.intOf]; omega
    · obtain rfl : k = L.length := by omega
      rw [imS_all] at hO
      have hfin : Hid (GivesI w L (.returned (.slice (some ⟨x, 0, none⟩) L.length L.length)) wr) := Lib.hid ⟨x, rfl, hb, by rw [hlx]; exact hO⟩
      clear hO hB hb
      go_wp2_with (fail)
      go_ret
      exact hfin.out
end Go.Proofs.YtfadglcpapiklaaGreatDoor
end
section
namespace Go.Proofs.YtfadglcpapiklaaGreatDoor
open Go.RowKit
set_option linter.unusedVariables false
set_option linter.unusedSimpArgs false
set_option maxRecDepth 100000

theorem xor8_lt {x y : Nat} (hx : x < 256) (hy : y < 256) : x ^^^ y < 256 := Nat.xor_lt_two_pow (n := 8) hx hy
theorem xor8m (a b : Nat) (h1 : a < 256) (h2 : b < 256) : bits .xor .u8 (a : Int) (b : Int) = ((a ^^^ b : Nat) : Int) := by
  have hl := xor8_lt h1 h2
  have e : (BitVec.ofNat 8 a ^^^ BitVec.ofNat 8 b).toNat = a ^^^ b := by
    rw [BitVec.toNat_xor, BitVec.toNat_ofNat, BitVec.toNat_ofNat, Nat.mod_eq_of_lt (by omega), Nat.mod_eq_of_lt (by omega)]
  have e2 : bits .xor .u8 (a : Int) (b : Int) = IntKind.u8.wrap (((BitVec.ofNat 8 a ^^^ BitVec.ofNat 8 b).toNat : Nat) : Int) := by
    have ea : BitVec.ofInt 8 (a : Int) = BitVec.ofNat 8 a := BitVec.ofInt_natCast 8 a
    have eb : BitVec.ofInt 8 (b : Int) = BitVec.ofNat 8 b := BitVec.ofInt_natCast 8 b
    rw [← ea, ← eb]; rfl
  rw [e2, e, IntKind.wrap_u8]
  omega
/-- A text, one byte of it turned. -/
def rotS (s : ByteArray) (j b : Nat) : ByteArray := lineOf (s.data.toList.set j (UInt8.ofNat ((s.data.toList.getD j 0).toNat ^^^ b)))
theorem rotS_size (s : ByteArray) (j b : Nat) (hs : s.size = 128) : (rotS s j b).size = 128 := by
  unfold rotS
  rw [lineOf_size, List.length_set, Array.length_toList]; exact hs
theorem rotS_cells (s : ByteArray) (j b : Nat) (hs : s.size = 128) (hj : j < 128) (hb : b < 256) (v : Int) (hv : v = (((s.data.toList.getD j 0).toNat ^^^ b : Nat) : Int)) : (contL s).set j (.int .u8 v) = contL (rotS s j b) := by
  subst hv
  have hl : s.data.toList.length = 128 := by rw [Array.length_toList]; exact hs
  apply List.ext_getElem?
  intro i
  rw [List.getElem?_set, contL_len]
  by_cases hi : i < 128
  · rw [contL_get _ _ hi, contL_get _ _ hi]
    have e : (rotS s j b).data.toList = s.data.toList.set j (UInt8.ofNat ((s.data.toList.getD j 0).toNat ^^^ b)) := by unfold rotS lineOf; simp
    rw [e]
    by_cases h : j = i
    · subst h
      rw [if_pos rfl, if_pos hi]
      congr 1
      rw [List.getD_eq_getElem?_getD (l := s.data.toList.set _ _), List.getElem?_set, if_pos rfl, if_pos (by omega)]
      have hx := xor8_lt (s.data.toList.getD j 0).toNat_lt hb
      unfold byteVal
      congr 1
      simp only [Option.getD_some, UInt8.toNat_ofNat']
      congr 1
      exact (Nat.mod_eq_of_lt hx).symm
    · rw [if_neg h, List.getD_eq_getElem?_getD, List.getD_eq_getElem?_getD, List.getElem?_set, if_neg h]
  · rw [List.getElem?_eq_none (l := contL s) (by rw [contL_len]; omega), if_neg (show ¬ j = i by omega), List.getElem?_eq_none (by rw [contL_len]; omega)]
/-- One byte that lasts is set. -/
theorem PBox.setB {w : World} {S : Nat → Prop} {m g bp cap : Nat} {fd : Bool} {L : List ByteArray} {V : Int → List ByteArray} {F : Int → Value} (h : PBox w S m g bp cap fd L V F) (i : Nat) (hi : i < L.length) (j : Nat) (hj : j < 128) (u : Value) (t : ByteArray) (ht : t.size = 128) (he : (contL L[i]).set j u = contL t) :
    PBox (w.setCell ⟨g, i * 128 + j, none⟩ u) S m g bp cap fd (L.set i t) V F ∧ Stp S S w (w.setCell ⟨g, i * 128 + j, none⟩ u) := by
  have k5 : ∀ k, k ≠ g → (w.setCell ⟨g, i * 128 + j, none⟩ u).heap[k]? = w.heap[k]? := fun k hk => Below.heap_setCell _ _ _ _ hk
  have k4 : (w.setCell ⟨g, i * 128 + j, none⟩ u).heap.size = w.heap.size := by simp
  refine ⟨⟨?_, ?_, ?_, fun z hz => (h.r z hz).sameAt fun k hk => k5 k (h.sr z hz k hk).2.2.1, h.sm, h.sg, h.sp, h.sr, h.ap, h.mg, h.mp, h.gp, fun k hk => by rw [k4]; exact h.lt k hk, ?_, ?_, ?_, ?_, h.zv⟩, ⟨⟨rfl, rfl, rfl, by omega, fun k hk => absurd hk (Nat.not_lt_zero _)⟩, fun k _ hn => k5 k (fun e => hn (e ▸ h.sg)), fun k hk => .inl hk⟩⟩
  · rw [k5 m h.mg, List.length_set]; exact h.b
  · have hn : (L.set i t).length = L.length := List.length_set
    rw [hn]
    have := h.l
    refine ⟨?_⟩
    have hs := (h.l.o.stored (i * 128 + j) u).1
    have e2 : (EC.all L).set (i * 128 + j) u = EC.all (L.set i t) := by
      apply List.ext_getElem?
      intro k
      by_cases hk : k < L.length * 128
      · have hq : k / 128 < L.length := Nat.div_lt_of_lt_mul (by rw [Nat.mul_comm]; exact hk)
        have hr : k % 128 < 128 := Nat.mod_lt _ (by omega)
        have hkk : k = k / 128 * 128 + k % 128 := by omega
        have e1 := EC.all_get (L.set i t) (k / 128) (by rw [hn]; exact hq) (k % 128) hr
        have e3 := EC.all_get L (k / 128) hq (k % 128) hr
        rw [ec_k, ← hkk] at e1 e3
        rw [e1, List.getElem?_set, EC.all_len, ec_k, e3, List.getElem_set, ec_f, ec_f]
        by_cases e : i = k / 128
        · rw [if_pos e, ← he, List.getElem?_set, contL_len]
          have e4 : (contL L[k / 128])[k % 128]? = (contL L[i])[k % 128]? := by congr 2; congr 1; exact e.symm
          rw [e4]
          by_cases e5 : j = k % 128
          · rw [if_pos (by omega), if_pos (by omega), if_pos e5, if_pos (show j < 128 from hj)]
          · rw [if_neg (by omega), if_neg e5]
        · rw [if_neg e, if_neg (by omega)]
      · rw [List.getElem?_eq_none (by rw [List.length_set, EC.all_len, ec_k]; omega), List.getElem?_eq_none (by rw [EC.all_len, hn, ec_k]; omega)]
    rw [hn, ← e2]
    exact hs
  · rw [List.length_set]; exact h.p.heap (k5 bp (Ne.symm h.gp))
  · rw [List.length_set]; exact h.keys
  · rw [List.length_set]; exact h.n1
  · rw [List.length_set]; exact h.n2
  · intro x hx
    rcases List.mem_or_eq_of_mem_set hx with h1 | h1
    · exact h.zl x h1
    · rw [h1]; exact ht
theorem Stp.drew' {S S' : Nat → Prop} {w w' : World} (h : Stp S S' w w') : Stp S S' w w'.drew := ⟨⟨h.b0.os, h.b0.tape, h.b0.output, h.b0.size, h.b0.block⟩, h.oth, h.grow⟩
/-- Whether bits can rot. -/
def rotB (fd : Bool) (L : List ByteArray) (V : Int → List ByteArray) (n at_ bits : Int) : Bool := !(fd || (!hasN L n || (decide (0 < (V n).length) || (decide (at_ < 0) || (decide (128 ≤ at_) || (decide (bits < 1) || decide (255 < bits)))))))
theorem rot_no {w : World} {S : Nat → Prop} {m g bp cap : Nat} {fd : Bool} {L : List ByteArray} {V : Int → List ByteArray} {F : Int → Value} (h : PBox w S m g bp cap fd L V F) (n at_ bits : Int) (hn : In64 n) (hr : rotB fd L V n at_ bits = false) :
    Calls Tryz.prog 54 #[.pointer (some ⟨m, 0, none⟩), .int .i64 n, .int .i64 at_, .int .i64 bits] w fun e w' => e = .returned (.bool false) ∧ w = w' := by
  have c0 := h.c0
  have ch := has_any h n
  have cv := vers_any h n hn
  unfold rotB at hr
  simp only [Bool.not_eq_false', Bool.or_eq_true, Bool.not_eq_true', decide_eq_true_eq] at hr
  clear h hn
  obtain ⟨q, hq⟩ : ∃ q, (V n).length = q := ⟨_, rfl⟩
  rw [hq] at cv hr
  obtain ⟨hb, hhb⟩ : ∃ hb, hasN L n = hb := ⟨_, rfl⟩
  rw [hhb] at ch hr
  clear hq hhb
  cases fd with
  | true =>
    clear hr ch cv
    go_enter Tryz.func54, Tryz.ntmps54
    go_wp2_with (fail)
    go_ret
    exact ⟨rfl, rfl⟩
  | false =>
    cases hb with
    | false =>
      clear hr cv
      go_enter Tryz.func54, Tryz.ntmps54
      go_wp2_with (fail)
      refine ch.mono ?_
      rintro e w' ⟨rfl, rfl⟩
      go_wp2_with (fail)
      go_ret
      exact ⟨rfl, rfl⟩
    | true =>
      simp only [Bool.false_eq_true, false_or, Bool.true_eq_false] at hr
      by_cases t0 : (0 : Int) < (q : Int)
      · clear hr
        go_enter Tryz.func54, Tryz.ntmps54
        go_wp2_with (fail)
        refine ch.mono ?_
        rintro e w' ⟨rfl, rfl⟩
        go_wp2_with (fail)
        refine cv.mono ?_
        rintro e w' ⟨rfl, rfl⟩
        go_wp2_with (fail)
        go_ret
        exact ⟨rfl, rfl⟩
      · skip
        by_cases t1 : at_ < 0
        · clear hr
          go_enter Tryz.func54, Tryz.ntmps54
          go_wp2_with (fail)
          refine ch.mono ?_
          rintro e w' ⟨rfl, rfl⟩
          go_wp2_with (fail)
          refine cv.mono ?_
          rintro e w' ⟨rfl, rfl⟩
          go_wp2_with (fail)
          go_ret
          exact ⟨rfl, rfl⟩
        · skip
          by_cases t2 : (128 : Int) ≤ at_
          · clear hr
            go_enter Tryz.func54, Tryz.ntmps54
            go_wp2_with (fail)
            refine ch.mono ?_
            rintro e w' ⟨rfl, rfl⟩
            go_wp2_with (fail)
            refine cv.mono ?_
            rintro e w' ⟨rfl, rfl⟩
            go_wp2_with (fail)
            go_ret
            exact ⟨rfl, rfl⟩
          · skip
            by_cases t3 : bits < 1
            · clear hr
              go_enter Tryz.func54, Tryz.ntmps54
              go_wp2_with (fail)
              refine ch.mono ?_
              rintro e w' ⟨rfl, rfl⟩
              go_wp2_with (fail)
              refine cv.mono ?_
              rintro e w' ⟨rfl, rfl⟩
              go_wp2_with (fail)
              go_ret
              exact ⟨rfl, rfl⟩
            · skip
              by_cases t4 : (255 : Int) < bits
              · clear hr
                go_enter Tryz.func54, Tryz.ntmps54
                go_wp2_with (fail)
                refine ch.mono ?_
                rintro e w' ⟨rfl, rfl⟩
                go_wp2_with (fail)
                refine cv.mono ?_
                rintro e w' ⟨rfl, rfl⟩
                go_wp2_with (fail)
                go_ret
                exact ⟨rfl, rfl⟩
              · omega
set_option maxRecDepth 100000 in
theorem rot_yes {w : World} {S : Nat → Prop} {m g bp cap : Nat} {fd : Bool} {L : List ByteArray} {V : Int → List ByteArray} {F : Int → Value} (h : PBox w S m g bp cap fd L V F) (n j b : Nat) (hr : rotB fd L V n j b = true) (hnl : n < L.length) (hj : j < 128) (hb : b < 256) :
    Calls Tryz.prog 54 #[.pointer (some ⟨m, 0, none⟩), .int .i64 (n : Int), .int .i64 (j : Int), .int .i64 (b : Int)] w fun e w' => e = .returned (.bool true) ∧ Stp S S w w' ∧ PBox w' S m g bp cap false (L.set n (rotS L[n] j b)) V F := by
  have hn2 := h.n2
  have hI := in64_nat n (by omega)
  unfold rotB at hr
  simp only [Bool.not_eq_true', Bool.or_eq_false_iff, Bool.not_eq_false', decide_eq_false_iff_not] at hr
  obtain ⟨rfl, hh, hv, h1, h2, h3, h4⟩ := hr
  have c0 := h.c0
  have c1 := h.c1
  have ch := has_any h n
  have cv := vers_any h n hI
  rw [hh] at ch
  have hv0 : (V n).length = 0 := by omega
  rw [hv0] at cv
  have hsz : L[n].size = 128 := h.zl _ (List.getElem_mem hnl)
  have cc : w.cell? ⟨g, n * 128 + j, none⟩ = some (.int .u8 (((L[n].data.toList.getD j 0).toNat : Nat) : Int)) := by
    have : w.cell? ⟨g, n * 128 + j, none⟩ = (contL L[n])[j]? := h.l.cell hnl hj
    rw [this, contL_get _ _ hj]; rfl
  have ff := h.l.frozen (n * 128 + j)
  obtain ⟨x, hx⟩ : ∃ x, L[n].data.toList.getD j 0 = x := ⟨_, rfl⟩
  obtain ⟨hB, hS⟩ := h.setB n hnl j hj (.int .u8 (((x.toNat ^^^ b : Nat)) : Int)) (rotS L[n] j b) (rotS_size _ _ _ hsz) (rotS_cells _ _ _ hsz hj hb _ (by rw [hx]))
  rw [hx] at cc
  have hxb : bits .xor .u8 ((x.toNat : Nat) : Int) ((b : Nat) : Int) = ((x.toNat ^^^ b : Nat) : Int) := xor8m _ _ x.toNat_lt hb
  have hwb : IntKind.u8.wrap (b : Int) = (b : Int) := by rw [IntKind.wrap_u8]; omega
  have y1 : (n : Int) < (L.length : Int) := by omega
  have y2 : (j : Int) < 128 := by omega
  have y3 : ¬ ((b : Int) < 1) := h3
  have y4 : ¬ ((255 : Int) < (b : Int)) := h4
  have hfin := Lib.hid (And.intro hS.drew' hB.drew)
  clear h hB hS h1 h2 h3 h4 hh hv hv0 hsz hI hb hn2 hx
  go_enter Tryz.func54, Tryz.ntmps54
  go_wp2_with (fail)
  refine ch.mono ?_
  rintro e w' ⟨rfl, rfl⟩
  go_wp2_with (fail)
  refine cv.mono ?_
  rintro e w' ⟨rfl, rfl⟩
  go_wp2_with (fail)
  go_region
  all_goals
    go_wp2_with (fail)
    go_ret
    exact ⟨rfl, hfin.out⟩
end Go.Proofs.YtfadglcpapiklaaGreatDoor
end
section
namespace Go.Proofs.YtfadglcpapiklaaGreatDoor
open Go.RowKit
set_option linter.unusedVariables false
set_option linter.unusedSimpArgs false
set_option maxRecDepth 100000

/-- A member that was made behind w, of the blocks S. -/
structure MS (w : World) (S : Nat → Prop) (w' : World) (m g bp cap : Nat) (fd : Bool) (L : List ByteArray) (V : Int → List ByteArray) : Prop where
  b : Below w.heap.size w w'
  h : ∃ F, (∀ k, S k → w.heap.size ≤ k) ∧ PBox w' S m g bp cap fd L V F
section
variable {w w1 w2 : World} {S S' T T' : Nat → Prop} {m g bp cap m2 g2 bp2 cap2 : Nat} {fd fd2 : Bool} {L L2 : List ByteArray} {V V2 : Int → List ByteArray}
theorem MS.lt (h : MS w S w1 m g bp cap fd L V) : ∀ k, S k → k < w1.heap.size := by
  obtain ⟨F, h1, h2⟩ := h.h
  exact h2.lt
theorem MS.from (h : MS w S w1 m g bp cap fd L V) : ∀ k, S k → w.heap.size ≤ k := by
  obtain ⟨F, h1, h2⟩ := h.h
  exact h1
theorem MS.n2 (h : MS w S w1 m g bp cap fd L V) : L.length ≤ 256 := by
  obtain ⟨F, h1, h2⟩ := h.h
  exact h2.n2
theorem MS.zl (h : MS w S w1 m g bp cap fd L V) : ∀ s ∈ L, s.size = 128 := by
  obtain ⟨F, h1, h2⟩ := h.h
  exact h2.zl
theorem MS.after (h : MS w S w1 m g bp cap fd L V) (hb : Below w1.heap.size w1 w2) : MS w S w2 m g bp cap fd L V := by
  obtain ⟨F, h1, h2⟩ := h.h
  exact ⟨h.b.trans (hb.mono h.b.size), F, h1, h2.below hb⟩
/-- Another's step leaves it. -/
theorem MS.step (h : MS w S w1 m g bp cap fd L V) (hs : Stp T T' w1 w2) (hT : ∀ k, T k → w.heap.size ≤ k) (hST : ∀ k, S k → ¬ T k) : MS w S w2 m g bp cap fd L V ∧ ∀ k, S k → ¬ T' k := by
  obtain ⟨F, h1, h2⟩ := h.h
  exact ⟨⟨h.b.trans (hs.below hT h.b.size), F, h1, h2.heap (fun k hk => hs.oth k (h2.lt k hk) (hST k hk)) hs.b0.size⟩, fun k hk hk2 => by
    rcases hs.grow k hk2 with x | x
    · exact hST k hk x
    · have := h2.lt k hk; omega⟩
theorem MS.setO (h : MS w S w1 m g bp cap fd L V) {x : Nat} (hx : w.heap.size ≤ x) (hS : ¬ S x) (i : Nat) (u : Value) : MS w S (w1.setCell ⟨x, i, none⟩ u) m g bp cap fd L V := by
  obtain ⟨F, h1, h2⟩ := h.h
  exact ⟨h.b.setCell (p := ⟨x, i, none⟩) hx u, F, h1, h2.heap (fun k hk => Below.heap_setCell _ _ _ _ (fun e => hS (by have e2 : k = x := e; rw [← e2]; exact hk))) (by simp)⟩
theorem Own.sameAt {B : Nat} {E : TypeId} {v : Value} {l : List Value} (h : Own w1 B E v l) (hk : ∀ k, v.ownBlock = some k → w2.heap[k]? = w1.heap[k]?) : Own w2 B E v l := by
  refine ⟨h.o.1, ?_⟩
  rcases h.o.2 with h1 | ⟨g, cap, cur, h1, h2, h3, h4⟩
  · exact .inl h1
  · exact .inr ⟨g, cap, cur, h1, h2, by rw [hk g (by rw [h1]; rfl)]; exact h3, h4⟩
theorem Own.step {B x n c : Nat} {E : TypeId} {xs : List Value} (h : Own w1 B E (.slice (some ⟨x, 0, none⟩) n c) xs) (hs : Stp S S' w1 w2) (hx : ¬ S x) : Own w2 B E (.slice (some ⟨x, 0, none⟩) n c) xs :=
  h.sameBlock (hs.oth x h.lt.2 hx)
/-- What a call makes of it. -/
def MSs (w : World) (S : Nat → Prop) (w1 : World) (m g bp cap : Nat) (fd : Bool) (L : List ByteArray) (V : Int → List ByteArray) (u : Value) (e : Ending) (w' : World) : Prop := e = .returned u ∧ Stp S S w1 w' ∧ MS w S w' m g bp cap fd L V
theorem MS.made {F : Int → Value} (h : MS w S w1 m g bp cap fd L V) (hs : Stp S S w1 w2) (hp : PBox w2 S m2 g2 bp2 cap2 fd2 L2 V2 F) : MS w S w2 m2 g2 bp2 cap2 fd2 L2 V2 :=
  ⟨h.b.trans (hs.below h.from h.b.size), F, h.from, hp⟩
theorem ms_write (h : MS w S w1 m g bp cap false L V) (i : Nat) (hi : i < L.length) (s : ByteArray) (hs : s.size = 128) (hv : (V i).length ≤ 1000000000000) :
    Calls Tryz.prog 71 #[.pointer (some ⟨m, 0, none⟩), .int .i64 (i : Int), .string s] w1 fun e w' => ∃ S', e = .returned (.int .i64 0) ∧ Stp S S' w1 w' ∧ MS w S' w' m g bp cap false L (updZ V i (V i ++ [s])) := by
  obtain ⟨F, h1, h2⟩ := h.h
  refine (write_any h2 i hi s hs hv).mono fun e w' ⟨he, S', F', hst, hp⟩ => ⟨S', he, hst, h.b.trans (hst.below h1 h.b.size), F', fun k hk => ?_, hp⟩
  rcases hst.grow k hk with x | x
  · exact h1 k x
  · exact Nat.le_trans h.b.size x
theorem ms_flush (h : MS w S w1 m g bp cap false L V) (hv : ∀ z, (V z).length ≤ 1000000000000) :
    Calls Tryz.prog 72 #[.pointer (some ⟨m, 0, none⟩)] w1 (MSs w S w1 m g bp cap false (flush L V) noV (.int .i64 0)) := by
  obtain ⟨F, h1, h2⟩ := h.h
  exact (flush_any h2 hv).mono fun e w' ⟨he, hst, hp⟩ => ⟨he, hst, h.made hst hp⟩
theorem ms_readd (h : MS w S w1 m g bp cap true L V) (n : Int) : Calls Tryz.prog 137 #[.pointer (some ⟨m, 0, none⟩), .int .i64 n] w1 fun e w' => e = .returned (.tuple #[.string ⟨#[]⟩, .int .i64 80]) ∧ w1 = w' := by
  obtain ⟨F, h1, h2⟩ := h.h
  exact read_dead h2 n
theorem ms_readr (h : MS w S w1 m g bp cap false L V) (n : Int) (hn : hasN L n = false) : Calls Tryz.prog 137 #[.pointer (some ⟨m, 0, none⟩), .int .i64 n] w1 fun e w' => e = .returned (.tuple #[.string ⟨#[]⟩, .int .i64 81]) ∧ w1 = w' := by
  obtain ⟨F, h1, h2⟩ := h.h
  exact read_range h2 n hn
theorem ms_read (h : MS w S w1 m g bp cap false L V) (i : Nat) (hi : i < L.length) (hv : (V i).length ≤ 1000000000000) : Calls Tryz.prog 137 #[.pointer (some ⟨m, 0, none⟩), .int .i64 (i : Int)] w1 (GivesR w1 (lastOf (V i) L[i]) 0) := by
  obtain ⟨F, h1, h2⟩ := h.h
  exact read_any h2 i hi (by omega)
theorem ms_writed (h : MS w S w1 m g bp cap true L V) (n : Int) (s : ByteArray) : Calls Tryz.prog 71 #[.pointer (some ⟨m, 0, none⟩), .int .i64 n, .string s] w1 fun e w' => e = .returned (.int .i64 80) ∧ w1 = w' := by
  obtain ⟨F, h1, h2⟩ := h.h
  exact write_dead h2 n s
theorem ms_writer (h : MS w S w1 m g bp cap false L V) (n : Int) (s : ByteArray) (hn : hasN L n = false ∨ s.size ≠ 128) : Calls Tryz.prog 71 #[.pointer (some ⟨m, 0, none⟩), .int .i64 n, .string s] w1 fun e w' => e = .returned (.int .i64 81) ∧ w1 = w' := by
  obtain ⟨F, h1, h2⟩ := h.h
  exact write_range h2 n s hn
theorem ms_flushd (h : MS w S w1 m g bp cap true L V) : Calls Tryz.prog 72 #[.pointer (some ⟨m, 0, none⟩)] w1 fun e w' => e = .returned (.int .i64 80) ∧ w1 = w' := by
  obtain ⟨F, h1, h2⟩ := h.h
  exact flush_dead h2
theorem ms_size (h : MS w S w1 m g bp cap fd L V) : Calls Tryz.prog 107 #[.pointer (some ⟨m, 0, none⟩)] w1 fun e w' => e = .returned (.int .i64 (L.length : Int)) ∧ w1 = w' := by
  obtain ⟨F, h1, h2⟩ := h.h
  exact size_any h2
end
end Go.Proofs.YtfadglcpapiklaaGreatDoor
end
section
namespace Go.Proofs.YtfadglcpapiklaaGreatDoor
open Go.RowKit
set_option linter.unusedVariables false
set_option linter.unusedSimpArgs false

def SaysB (w : World) (b : Bool) (e : Ending) (w' : World) : Prop := e = .returned (.bool b) ∧ Below w.heap.size w w' ∧ w'.heap = w.heap
def Quiet (w w' : World) : Prop := Below w.heap.size w w' ∧ w'.heap = w.heap
theorem Quiet.refl (w : World) : Quiet w w := ⟨Below.refl _ _, rfl⟩
theorem Quiet.drewN {w w' : World} (h : Quiet w w') (n : Nat) : Quiet w (w'.drewN n) := ⟨h.1.trans ⟨rfl, rfl, rfl, Nat.le_refl _, fun _ _ => rfl⟩, h.2⟩
theorem Quiet.cell {w w' : World} (h : Quiet w w') (a : Addr) : w'.cell? a = w.cell? a := by simp only [World.cell?, h.2]
end Go.Proofs.YtfadglcpapiklaaGreatDoor
end
section
namespace Go.Proofs.YtfadglcpapiklaaGreatDoor
open Go.RowKit
set_option linter.unusedVariables false
set_option linter.unusedSimpArgs false
set_option maxRecDepth 100000

/-- One cell of one element. -/
theorem Enc.all_set {α : Type} (E : Enc α) (l : List α) (i : Nat) (hi : i < l.length) (j : Nat) (hj : j < E.k) (u : Value) (a : α) (h : (E.f l[i]).set j u = E.f a) : (E.all l).set (i * E.k + j) u = E.all (l.set i a) := by
  induction l generalizing i with
  | nil => exact absurd hi (Nat.not_lt_zero _)
  | cons b l ih =>
    cases i with
    | zero =>
      rw [Nat.zero_mul, Nat.zero_add, List.set_cons_zero, E.all_cons, E.all_cons, List.set_append_left _ _ (by rw [E.len]; exact hj)]
      exact congrArg (· ++ E.all l) h
    | succ i =>
      rw [List.set_cons_succ, E.all_cons, E.all_cons, List.set_append_right _ _ (by rw [E.len, Nat.succ_mul]; omega), E.len, show (i + 1) * E.k + j - E.k = i * E.k + j by rw [Nat.succ_mul]; omega]
      exact congrArg (E.f b ++ ·) (ih i (by simpa using hi) h)
theorem OwnE.setIn {α : Type} {E : Enc α} {w : World} {B : Nat} {T : TypeId} {g n cap : Nat} {l : List α} (h : OwnE E w B T (.slice (some ⟨g, 0, none⟩) n cap) l) (i : Nat) (hi : i < l.length) (j : Nat) (hj : j < E.k) (u : Value) (a : α) (he : (E.f l[i]).set j u = E.f a) :
    OwnE E (w.setCell ⟨g, i * E.k + j, none⟩ u) B T (.slice (some ⟨g, 0, none⟩) n cap) (l.set i a) := by
  have hn : n = l.length := by rcases h.o.2 with ⟨h1, _⟩ | ⟨_, _, _, h1, _⟩ <;> simp at h1; exact h1.2.1
  subst hn
  refine ⟨?_⟩
  rw [List.length_set, ← E.all_set l i hi j hj u a he]
  exact (h.o.stored (i * E.k + j) u).1
def asQ : Value → Value
  | .slice a n c => .slice a n c
  | _ => .slice none 0 0
theorem asQ_one (v : Value) : (asQ v).oneCell' = true := by cases v <;> rfl
theorem asQ_own {w : World} {B : Nat} {E : TypeId} {v : Value} {xs : List Value} (h : Own w B E v xs) : asQ v = v := by
  rcases h.o.2 with ⟨rfl, _⟩ | ⟨g, cap, cur, rfl, _⟩ <;> rfl
/-- A sector of the document's member: what lasts, the slice of what is pending. -/
def sE : Enc (ByteArray × Value) := ⟨2, fun x => [.string x.1, asQ x.2], by omega, fun _ => rfl, fun x u hu => by
  simp only [List.mem_cons, List.not_mem_nil, or_false] at hu
  rcases hu with rfl | rfl
  · rfl
  · exact asQ_one _⟩
def upq {α : Type} (f : Nat → α) (i : Nat) (v : α) : Nat → α := fun j => if j = i then v else f j
def qL (L : List ByteArray) (F : Nat → Value) : List (ByteArray × Value) := (List.range L.length).map fun i => (L.getD i zero128, F i)
theorem qL_len (L : List ByteArray) (F : Nat → Value) : (qL L F).length = L.length := by simp [qL]
theorem qL_get (L : List ByteArray) (F : Nat → Value) (i : Nat) (h : i < (qL L F).length) (h' : i < L.length) : (qL L F)[i] = (L[i], F i) := by
  simp [qL, List.getD_eq_getElem?_getD, List.getElem?_eq_getElem h']
theorem qL_set (L : List ByteArray) (F : Nat → Value) (i : Nat) (h : i < L.length) (t : ByteArray) (v : Value) : (qL L F).set i (t, v) = qL (L.set i t) (upq F i v) := by
  unfold qL
  apply List.ext_getElem?
  intro j
  rw [List.length_set, List.getElem?_set]
  by_cases e : i = j
  · subst e
    simp [h, upq]
  · rw [if_neg e]
    by_cases hj : j < L.length
    · simp [hj, upq, Ne.symm e, List.getElem?_set, e]
    · simp [hj]
theorem upq_self {α : Type} (F : Nat → α) (i : Nat) : upq F i (F i) = F := by
  funext j; unfold upq; by_cases e : j = i
  · subst e; rw [if_pos rfl]
  · rw [if_neg e]
/-- The document's member in memory: its box m, its sectors in block q. -/
structure QBox (w : World) (S : Nat → Prop) (m q cap : Nat) (fd : Bool) (L : List ByteArray) (V : Int → List ByteArray) (F : Nat → Value) : Prop where
  b : w.heap[m]? = some (.cells #[.slice (some ⟨q, 0, none⟩) L.length cap, .bool fd] 150 (0, 0))
  l : OwnE sE w 0 161 (.slice (some ⟨q, 0, none⟩) L.length cap) (qL L F)
  r : ∀ i : Nat, i < L.length → Own w 0 9 (F i) ((V (i : Int)).map .string)
  sm : S m
  sq : S q
  sr : ∀ i : Nat, i < L.length → ∀ k, (F i).ownBlock = some k → S k ∧ k ≠ m ∧ k ≠ q
  mq : m ≠ q
  lt : ∀ k, S k → k < w.heap.size
  keys : ∀ z, V z ≠ [] → 0 ≤ z ∧ z < (L.length : Int)
  n1 : 1 ≤ L.length
  n2 : L.length ≤ 256
  zl : ∀ s ∈ L, s.size = 128
  zv : ∀ z, ∀ s ∈ V z, s.size = 128
theorem Own.at_ {w w' : World} {B : Nat} {E : TypeId} {v : Value} {xs : List Value} (h : Own w B E v xs) (hk : ∀ k, v.ownBlock = some k → w'.heap[k]? = w.heap[k]?) : Own w' B E v xs := by
  refine ⟨h.o.1, ?_⟩
  rcases h.o.2 with h1 | ⟨g, cap, cur, h1, h2, h3, h4⟩
  · exact .inl h1
  · exact .inr ⟨g, cap, cur, h1, h2, by rw [hk g (by rw [h1]; rfl)]; exact h3, h4⟩
section
variable {w w' : World} {S : Nat → Prop} {m q cap : Nat} {fd : Bool} {L : List ByteArray} {V : Int → List ByteArray} {F : Nat → Value}
theorem QBox.heap (h : QBox w S m q cap fd L V F) (e : ∀ k, S k → w'.heap[k]? = w.heap[k]?) (hs : w.heap.size ≤ w'.heap.size) : QBox w' S m q cap fd L V F :=
  ⟨(e m h.sm).trans h.b, h.l.sameAt fun k hk => by injection hk with hk; subst hk; exact e _ h.sq, fun i hi => (h.r i hi).at_ fun k hk => e k (h.sr i hi k hk).1, h.sm, h.sq, h.sr, h.mq,
    fun k hk => Nat.lt_of_lt_of_le (h.lt k hk) hs, h.keys, h.n1, h.n2, h.zl, h.zv⟩
theorem QBox.below (h : QBox w S m q cap fd L V F) (hb : Below w.heap.size w w') : QBox w' S m q cap fd L V F := h.heap (fun k hk => hb.block k (h.lt k hk)) hb.size
theorem QBox.c0 (h : QBox w S m q cap fd L V F) : w.cell? ⟨m, 0, none⟩ = some (.slice (some ⟨q, 0, none⟩) L.length cap) := by simp [World.cell?, h.b]
theorem QBox.c1 (h : QBox w S m q cap fd L V F) : w.cell? ⟨m, 1, none⟩ = some (.bool fd) := by simp [World.cell?, h.b]
theorem QBox.f (h : QBox w S m q cap fd L V F) (o : Nat) : w.frozen? ⟨m, o, none⟩ = false := by simp [World.frozen?, h.b]
theorem QBox.s0 (h : QBox w S m q cap fd L V F) {i : Nat} (hi : i < L.length) : w.cell? ⟨q, i * 2, none⟩ = some (.string L[i]) := by
  have := h.l.cell (i := i) (by rw [qL_len]; exact hi) (j := 0) (by show 0 < 2; omega)
  rw [qL_get _ _ _ _ hi] at this
  exact this
theorem QBox.s1 (h : QBox w S m q cap fd L V F) {i : Nat} (hi : i < L.length) : w.cell? ⟨q, i * 2 + 1, none⟩ = some (F i) := by
  have := h.l.cell (i := i) (by rw [qL_len]; exact hi) (j := 1) (by show 1 < 2; omega)
  rw [qL_get _ _ _ _ hi] at this
  rw [show sE.k = 2 from rfl] at this
  rw [this]
  show some (asQ (F i)) = _
  rw [asQ_own (h.r i hi)]
theorem QBox.sf (h : QBox w S m q cap fd L V F) (o : Nat) : w.frozen? ⟨q, o, none⟩ = false := h.l.frozen o
theorem QBox.len (h : QBox w S m q cap fd L V F) (W : World) : (Builtin.len_ #[147] 3 #[.slice (some ⟨q, 0, none⟩) L.length cap]).run Tryz.prog W = .ok (.int .i64 (L.length : Int)) W := by
  have := h.l.reads.len_run (P := Tryz.prog) Tryz.underlying147 3 W
  rw [qL_len] at this; exact this
theorem QBox.stp (h : QBox w S m q cap fd L V F) : Stp S S w w := Stp.refl _ _
end
end Go.Proofs.YtfadglcpapiklaaGreatDoor
end
section
namespace Go.Proofs.YtfadglcpapiklaaGreatDoor
open Go.RowKit
set_option linter.unusedVariables false
set_option linter.unusedSimpArgs false
set_option maxRecDepth 100000

theorem qsec_is : ∃ i, Tryz.prog.info? 161 = some i ∧ i.zero = some (.agg #[.string ⟨#[]⟩, .slice none 0 0]) ∧ i.size = sE.k ∧ i.bytes = 40 :=
  (cont_gen (P := Tryz.prog) (t := 161) (c := .agg #[.string ⟨#[]⟩, .slice none 0 0]) (n := 2) (k := 40) (by kernel_rfl)).2
theorem qL_rep (n : Nat) : qL (List.replicate n zero128) (fun _ => nilS) = List.replicate n (zero128, nilS) := by
  unfold qL
  apply List.ext_getElem?
  intro j
  by_cases hj : j < n
  · simp [hj, List.getElem?_replicate]
  · simp [hj, List.getElem?_replicate]
/-- Blank sectors. -/
def GivesB (w : World) (n : Nat) (e : Ending) (w' : World) : Prop := ∃ v, e = .returned v ∧ Below w.heap.size w w' ∧ OwnE sE w' w.heap.size 161 v (List.replicate n (zero128, nilS))
set_option maxHeartbeats 1000000 in
theorem qblank_any (n : Nat) (w : World) (h2 : n ≤ 256) : Calls Tryz.prog 105 #[.int .i64 (n : Int)] w (GivesB w n) := by
  obtain ⟨si, s1, s2, s3, s4⟩ := qsec_is
  go_enter Tryz.func105, Tryz.ntmps105
  go_wp2_with (fail)
  go_loopw [4, 3] (fun t vx wr => ∃ (k : Nat) (u : Value), u = vx ∧ k ≤ n ∧ t = .int .i64 (k : Int) ∧ Below w.heap.size w wr ∧ OwnE sE wr w.heap.size 161 u (List.replicate k (zero128, nilS))) (fun t _ _ => n - (RowKit.intOf t).toNat)
  case atStart => exact ⟨0, _, rfl, by omega, rfl, Below.refl _ _, OwnE.nil _ _ _ _⟩
  case round =>
    obtain ⟨k, u, rfl, hk, rfl, hB, hO⟩ := hrel
    by_cases hlt : k < n
    · have k1 : (k : Int) < (n : Int) := by omega
      obtain ⟨w1, hmk, hr, hb, hsz⟩ := BRow.make_run wr 128 (by omega)
      replace hmk : (Instr.makeSlice 113 (.int .i64 128) (.int .i64 128)).run Tryz.prog wr = .ok (.slice (some ⟨wr.heap.size, 0, none⟩) 128 128) w1 := hmk
      have hst := hr.str 128 128 (by simp)
      have ez : lineOf (List.replicate 128 0) = zero128 := rfl
      rw [ez] at hst
      have hO1 := hO.after hb
      have hB1 := hB.trans (hb.mono hB.size)
      obtain ⟨v', w2, hap, hO2, hb2, _⟩ := OwnE.push (P := Tryz.prog) (S := 147) Tryz.underlying147 s1 s2 s3 s4 rfl hO1 (zero128, nilS) #[.string zero128, .slice none 0 0] rfl hB1.size (by simp; omega) (by simp; omega)
      have hB2 := hB1.trans hb2
      have hrep : List.replicate k (zero128, nilS) ++ [(zero128, nilS)] = List.replicate (k + 1) (zero128, nilS) := by rw [List.replicate_succ']
      rw [hrep] at hO2
      clear hO hO1 hB hB1 hr hb hb2 ez hrep s1 s2 s3 s4 hsz
      generalize zero128 = zz at *
      go_wp2_with (at_builtin; refine wpList_append_run hap _ _ rfl rfl rfl rfl rfl ?_)
      go_roundw
      case rel => exact ⟨k + 1, _, rfl, by omega, by go_num, hB2, hO2⟩
      case measure => simp [RowKit.intOf]; omega
    · obtain rfl : k = n := by omega
      go_wp2_with (fail)
      go_ret
      exact ⟨_, rfl, hB, hO⟩
/-- What the document's New makes. -/
structure QS (w : World) (S : Nat → Prop) (w' : World) (m : Nat) (fd : Bool) (L : List ByteArray) (V : Int → List ByteArray) : Prop where
  b : Below w.heap.size w w'
  h : ∃ q cap F, (∀ k, S k → w.heap.size ≤ k) ∧ QBox w' S m q cap fd L V F
theorem qnew_any (n : Nat) (w : World) (h1 : 1 ≤ n) (h2 : n ≤ 256) : Calls Tryz.prog 76 #[.int .i64 (n : Int)] w fun e w' => ∃ S m, e = .returned (.tuple #[.pointer (some ⟨m, 0, none⟩), .int .i64 0]) ∧ QS w S w' m false (List.replicate n zero128) noV := by
  have cb := qblank_any n w h2
  have t1 : decide ((n : Int) < 1) = false := decide_eq_false (by omega)
  have t2 : decide ((256 : Int) < (n : Int)) = false := decide_eq_false (by omega)
  go_enter Tryz.func76, Tryz.ntmps76
  go_wp2_with (fail)
  refine cb.mono ?_
  rintro e w1 ⟨v, rfl, hb, hO⟩
  obtain ⟨q, cap, hv, hq1, hq2⟩ := hO.form (by rw [List.length_replicate]; exact h1)
  rw [List.length_replicate] at hv
  subst hv
  have hfin : Hid (QS w (fun k => k = q ∨ k = w1.heap.size) (w1.alloc (.cells #[.slice (some ⟨q, 0, none⟩) n cap, .bool false] 150)) w1.heap.size false (List.replicate n zero128) noV) := by
    refine Lib.hid ⟨hb.trans ((Below.refl _ _).alloc hb.size _), q, cap, fun _ => nilS, ?_, ?_, ?_, fun i hi => Own.nil _ _ _, .inr rfl, .inl rfl, fun i hi k hk => (by cases hk), by omega, ?_, fun z hz => absurd rfl hz, by rw [List.length_replicate]; exact h1, by rw [List.length_replicate]; exact h2, fun s hs => ?_, fun z s hs => (by cases hs)⟩
    · rintro k (rfl | rfl)
      · exact hq1
      · exact hb.size
    · rw [List.length_replicate]; exact heap_alloc_new _ _
    · rw [List.length_replicate, qL_rep]
      exact (hO.alloc _).mono (Nat.zero_le _)
    · rintro k (rfl | rfl) <;> simp <;> omega
    · rw [List.eq_of_mem_replicate hs]; exact zero128_size
  clear hO hb h1 h2 hq1 hq2
  go_wp2_with (fail)
  go_ret2
  exact ⟨_, _, rfl, hfin.out⟩
/-- What a step leaves. -/
def QStep (w : World) (S : Nat → Prop) (m : Nat) (fd : Bool) (L : List ByteArray) (V : Int → List ByteArray) (w' : World) : Prop := ∃ S' q cap F, Stp S S' w w' ∧ QBox w' S' m q cap fd L V F
end Go.Proofs.YtfadglcpapiklaaGreatDoor
end
section
namespace Go.Proofs.YtfadglcpapiklaaGreatDoor
open Go.RowKit
set_option linter.unusedVariables false
set_option linter.unusedSimpArgs false
set_option maxRecDepth 100000

theorem QBox.drew {w : World} {S : Nat → Prop} {m q cap : Nat} {fd : Bool} {L : List ByteArray} {V : Int → List ByteArray} {F : Nat → Value} (h : QBox w S m q cap fd L V F) : QBox w.drew S m q cap fd L V F := h.heap (fun _ _ => rfl) (Nat.le_refl _)
end Go.Proofs.YtfadglcpapiklaaGreatDoor
end
section
namespace Go.Proofs.YtfadglcpapiklaaGreatDoor
open Go.RowKit
set_option linter.unusedVariables false
set_option linter.unusedSimpArgs false
set_option maxRecDepth 100000

/-- What lasts, told. -/
def GivesQ (w : World) (L : List ByteArray) (e : Ending) (w' : World) : Prop := ∃ v, e = .returned v ∧ Below w.heap.size w w' ∧ Own w' w.heap.size 9 v (L.map .string)
/-- Failed or not. -/
theorem QBox.setFd {w : World} {S : Nat → Prop} {m q cap : Nat} {fd : Bool} {L : List ByteArray} {V : Int → List ByteArray} {F : Nat → Value} (h : QBox w S m q cap fd L V F) (b : Bool) :
    QBox (w.setCell ⟨m, 1, none⟩ (.bool b)) S m q cap b L V F ∧ Stp S S w (w.setCell ⟨m, 1, none⟩ (.bool b)) := by
  have k5 : ∀ k, k ≠ m → (w.setCell ⟨m, 1, none⟩ (.bool b)).heap[k]? = w.heap[k]? := fun k hk => Below.heap_setCell _ _ _ _ hk
  have k4 : (w.setCell ⟨m, 1, none⟩ (.bool b)).heap.size = w.heap.size := by simp
  refine ⟨⟨?_, h.l.sameAt fun k hk => by injection hk with hk; subst hk; exact k5 _ (Ne.symm h.mq), fun i hi => (h.r i hi).at_ fun k hk => k5 k (h.sr i hi k hk).2.1, h.sm, h.sq, h.sr, h.mq, fun k hk => by rw [k4]; exact h.lt k hk, h.keys, h.n1, h.n2, h.zl, h.zv⟩,
    ⟨⟨rfl, rfl, rfl, by rw [k4]; exact Nat.le_refl _, fun k hk => absurd hk (Nat.not_lt_zero _)⟩, fun k hk hn => k5 k (fun e => hn (e ▸ h.sm)), fun k hk => .inl hk⟩⟩
  simp [World.setCell, Array.getElem?_modify, h.b]
theorem QStep.trans {w w1 w2 : World} {S : Nat → Prop} {m : Nat} {fd : Bool} {L : List ByteArray} {V : Int → List ByteArray} (hs : Stp S S w w1) (h : QStep w1 S m fd L V w2) : QStep w S m fd L V w2 := by
  obtain ⟨S', q, cap, F, h1, h2⟩ := h
  exact ⟨S', q, cap, F, hs.trans h1, h2⟩
end Go.Proofs.YtfadglcpapiklaaGreatDoor
end
section
namespace Go.Proofs.YtfadglcpapiklaaGreatDoor
open Go.RowKit
set_option linter.unusedVariables false
set_option linter.unusedSimpArgs false
set_option maxRecDepth 100000

/-- What a member is. -/
structure Mst where
  fd : Bool
  L : List ByteArray
  V : Int → List ByteArray
/-- Where a rack's members lie. -/
structure RLay where
  q : Nat
  cap : Nat
  T : Nat → Nat → Prop
  m : Nat → Nat
  g : Nat → Nat
  bp : Nat → Nat
  cp : Nat → Nat
  F : Nat → Int → Value
def upd {α : Type} (f : Nat → α) (i : Nat) (v : α) : Nat → α := fun j => if j = i then v else f j
theorem upd_same {α : Type} (f : Nat → α) (i : Nat) (v : α) : upd f i v i = v := if_pos rfl
theorem upd_other {α : Type} (f : Nat → α) (i j : Nat) (v : α) (h : j ≠ i) : upd f i v j = f j := if_neg h
/-- A rack in memory. -/
structure RBox (w : World) (S : Nat → Prop) (k n : Nat) (Λ : RLay) (M : Nat → Mst) (off : Bool) (acts armed : Int) : Prop where
  b : w.heap[k]? = some (.cells #[.slice (some ⟨Λ.q, 0, none⟩) n Λ.cap, .bool off, .int .i64 acts, .int .i64 armed] 92 (0, 0))
  l : Own w 0 89 (.slice (some ⟨Λ.q, 0, none⟩) n Λ.cap) (rowV n fun i => .pointer (some ⟨Λ.m i, 0, none⟩))
  p : ∀ i, i < n → PBox w (Λ.T i) (Λ.m i) (Λ.g i) (Λ.bp i) (Λ.cp i) (M i).fd (M i).L (M i).V (Λ.F i)
  dj : ∀ i j x, i < n → j < n → i ≠ j → Λ.T i x → ¬ Λ.T j x
  tS : ∀ i x, i < n → Λ.T i x → S x ∧ x ≠ k ∧ x ≠ Λ.q
  sk : S k
  sq : S Λ.q
  kq : k ≠ Λ.q
  lt : ∀ x, S x → x < w.heap.size
  n1 : 1 ≤ n
  n7 : n ≤ 7
section
variable {w w' : World} {S : Nat → Prop} {k n : Nat} {Λ : RLay} {M : Nat → Mst} {off : Bool} {acts armed : Int}
theorem RBox.heap (h : RBox w S k n Λ M off acts armed) (e : ∀ x, S x → w'.heap[x]? = w.heap[x]?) (hs : w.heap.size ≤ w'.heap.size) : RBox w' S k n Λ M off acts armed :=
  ⟨(e k h.sk).trans h.b, h.l.sameBlock (e _ h.sq), fun i hi => (h.p i hi).heap (fun x hx => e x (h.tS i x hi hx).1) hs, h.dj, h.tS, h.sk, h.sq, h.kq, fun x hx => Nat.lt_of_lt_of_le (h.lt x hx) hs, h.n1, h.n7⟩
theorem RBox.below (h : RBox w S k n Λ M off acts armed) (hb : Below w.heap.size w w') : RBox w' S k n Λ M off acts armed := h.heap (fun x hx => hb.block x (h.lt x hx)) hb.size
theorem RBox.c0 (h : RBox w S k n Λ M off acts armed) : w.cell? ⟨k, 0, none⟩ = some (.slice (some ⟨Λ.q, 0, none⟩) n Λ.cap) := by simp [World.cell?, h.b]
theorem RBox.c1 (h : RBox w S k n Λ M off acts armed) : w.cell? ⟨k, 1, none⟩ = some (.bool off) := by simp [World.cell?, h.b]
theorem RBox.c2 (h : RBox w S k n Λ M off acts armed) : w.cell? ⟨k, 2, none⟩ = some (.int .i64 acts) := by simp [World.cell?, h.b]
theorem RBox.c3 (h : RBox w S k n Λ M off acts armed) : w.cell? ⟨k, 3, none⟩ = some (.int .i64 armed) := by simp [World.cell?, h.b]
theorem RBox.f (h : RBox w S k n Λ M off acts armed) (o : Nat) : w.frozen? ⟨k, o, none⟩ = false := by simp [World.frozen?, h.b]
theorem RBox.slot (h : RBox w S k n Λ M off acts armed) {i : Nat} (hi : i < n) : w.cell? ⟨Λ.q, i, none⟩ = some (.pointer (some ⟨Λ.m i, 0, none⟩)) := by
  rw [h.l.cell (i := i) (by rw [rowV_len]; exact hi), rowV_get _ _ _ hi]
/-- A cell of the rack's own is set. -/
theorem RBox.setK (h : RBox w S k n Λ M off acts armed) (o : Nat) (u : Value) (off' : Bool) (acts' armed' : Int)
    (e : (#[.slice (some ⟨Λ.q, 0, none⟩) n Λ.cap, .bool off, .int .i64 acts, .int .i64 armed] : Array Value).setIfInBounds o u = #[.slice (some ⟨Λ.q, 0, none⟩) n Λ.cap, .bool off', .int .i64 acts', .int .i64 armed']) :
    RBox (w.setCell ⟨k, o, none⟩ u) S k n Λ M off' acts' armed' ∧ Stp S S w (w.setCell ⟨k, o, none⟩ u) := by
  have k5 : ∀ x, x ≠ k → (w.setCell ⟨k, o, none⟩ u).heap[x]? = w.heap[x]? := fun x hx => Below.heap_setCell _ _ _ _ hx
  have k4 : (w.setCell ⟨k, o, none⟩ u).heap.size = w.heap.size := by simp
  refine ⟨⟨?_, h.l.sameBlock (k5 _ (Ne.symm h.kq)), fun i hi => (h.p i hi).heap (fun x hx => k5 x (h.tS i x hi hx).2.1) (by omega), h.dj, h.tS, h.sk, h.sq, h.kq, fun x hx => by rw [k4]; exact h.lt x hx, h.n1, h.n7⟩, ⟨⟨rfl, rfl, rfl, by omega, fun x hx => absurd hx (Nat.not_lt_zero _)⟩, fun x _ hn => k5 x (fun e => hn (e ▸ h.sk)), fun x hx => .inl hx⟩⟩
  simp [World.setCell, Array.getElem?_modify, h.b, e]
/-- Where it lies behind a step of member i. -/
def RLay.put (Λ : RLay) (i : Nat) (T : Nat → Prop) (g bp cp : Nat) (F : Int → Value) : RLay := { Λ with T := upd Λ.T i T, g := upd Λ.g i g, bp := upd Λ.bp i bp, cp := upd Λ.cp i cp, F := upd Λ.F i F }
/-- A step of member i. -/
theorem RBox.turn (h : RBox w S k n Λ M off acts armed) {i : Nat} (hi : i < n) {T' : Nat → Prop} {g bp cp : Nat} {F : Int → Value} {st : Mst} (hs : Stp (Λ.T i) T' w w') (hp : PBox w' T' (Λ.m i) g bp cp st.fd st.L st.V F) :
    ∃ S', Stp S S' w w' ∧ RBox w' S' k n (Λ.put i T' g bp cp F) (upd M i st) off acts armed := by
  have old : ∀ x, x < w.heap.size → ¬ Λ.T i x → w'.heap[x]? = w.heap[x]? := hs.oth
  have kT : ¬ Λ.T i k := fun z => (h.tS i k hi z).2.1 rfl
  have qT : ¬ Λ.T i Λ.q := fun z => (h.tS i _ hi z).2.2 rfl
  have kl := h.lt k h.sk
  have ql := h.lt _ h.sq
  have hsz := hs.b0.size
  refine ⟨fun x => S x ∨ (w.heap.size ≤ x ∧ T' x), ⟨hs.b0, fun x hx hn => old x hx (fun z => hn (h.tS i x hi z).1), fun x hx => hx.imp id And.left⟩,
    ⟨(old k kl kT).trans h.b, h.l.sameBlock (old _ ql qT), fun j hj => ?_, fun a b x ha hb hne hx => ?_, fun j x hj hx => ?_, .inl h.sk, .inl h.sq, h.kq, fun x hx => ?_, h.n1, h.n7⟩⟩
  · by_cases e : j = i
    · subst e
      simp only [RLay.put, upd_same]
      exact hp
    · simp only [RLay.put, upd_other _ _ _ _ e]
      exact (h.p j hj).apart hs (fun x hx => h.dj j i x hj hi e hx)
  · simp only [RLay.put] at hx ⊢
    have tl : ∀ j, j < n → j ≠ i → ∀ x, Λ.T j x → ¬ T' x := fun j hj hne x hx hx' => by
      rcases hs.grow x hx' with z | z
      · exact h.dj j i x hj hi hne hx z
      · have := h.lt x (h.tS j x hj hx).1; omega
    by_cases e : a = i
    · subst e
      rw [upd_same] at hx
      rw [upd_other _ _ _ _ (Ne.symm hne)]
      exact fun z => tl b hb (Ne.symm hne) x z hx
    · rw [upd_other _ _ _ _ e] at hx
      by_cases e2 : b = i
      · subst e2; rw [upd_same]; exact tl a ha e x hx
      · rw [upd_other _ _ _ _ e2]; exact h.dj a b x ha hb hne hx
  · simp only [RLay.put] at hx ⊢
    by_cases e : j = i
    · subst e
      rw [upd_same] at hx
      rcases hs.grow x hx with z | z
      · exact ⟨.inl (h.tS j x hj z).1, (h.tS j x hj z).2⟩
      · exact ⟨.inr ⟨z, hx⟩, by omega, by omega⟩
    · rw [upd_other _ _ _ _ e] at hx
      exact ⟨.inl (h.tS j x hj hx).1, (h.tS j x hj hx).2⟩
  · rcases hx with z | z
    · exact Nat.lt_of_lt_of_le (h.lt x z) hsz
    · exact hp.lt x z.2
/-- The same where no block was taken. -/
theorem RBox.turnS (h : RBox w S k n Λ M off acts armed) {i : Nat} (hi : i < n) {g bp cp : Nat} {F : Int → Value} {st : Mst} (hs : Stp (Λ.T i) (Λ.T i) w w') (hp : PBox w' (Λ.T i) (Λ.m i) g bp cp st.fd st.L st.V F) :
    Stp S S w w' ∧ RBox w' S k n (Λ.put i (Λ.T i) g bp cp F) (upd M i st) off acts armed := by
  obtain ⟨S', h1, h2⟩ := h.turn hi hs hp
  have hS : Stp S S w w' := ⟨h1.b0, h1.oth, fun x hx => .inl hx⟩
  refine ⟨hS, ⟨h2.b, h2.l, h2.p, h2.dj, fun j x hj hx => ⟨?_, (h2.tS j x hj hx).2⟩, h.sk, h.sq, h.kq, fun x hx => Nat.lt_of_lt_of_le (h.lt x hx) h1.b0.size, h.n1, h.n7⟩⟩
  simp only [RLay.put] at hx
  by_cases e : j = i
  · subst e; rw [upd_same] at hx; exact (h.tS j x hj hx).1
  · rw [upd_other _ _ _ _ e] at hx; exact (h.tS j x hj hx).1
end
/-- A rack that was made behind w, of the blocks S. -/
structure RS (w : World) (S : Nat → Prop) (w' : World) (k n : Nat) (M : Nat → Mst) (off : Bool) (acts armed : Int) : Prop where
  b : Below w.heap.size w w'
  f : ∀ x, S x → w.heap.size ≤ x
  h : ∃ Λ, RBox w' S k n Λ M off acts armed
section
variable {w w1 w2 : World} {S S' T T' : Nat → Prop} {k n : Nat} {M : Nat → Mst} {off : Bool} {acts armed : Int}
theorem RS.lt (h : RS w S w1 k n M off acts armed) : ∀ x, S x → x < w1.heap.size := by obtain ⟨Λ, h1⟩ := h.h; exact h1.lt
theorem RS.after (h : RS w S w1 k n M off acts armed) (hb : Below w1.heap.size w1 w2) : RS w S w2 k n M off acts armed := by
  obtain ⟨Λ, h1⟩ := h.h
  exact ⟨h.b.trans (hb.mono h.b.size), h.f, Λ, h1.below hb⟩
theorem RS.other (h : RS w S w1 k n M off acts armed) (hb : Below w.heap.size w1 w2) (hk : ∀ x, S x → w2.heap[x]? = w1.heap[x]?) : RS w S w2 k n M off acts armed := by
  obtain ⟨Λ, h1⟩ := h.h
  exact ⟨h.b.trans hb, h.f, Λ, h1.heap hk hb.size⟩
theorem RS.step (h : RS w S w1 k n M off acts armed) (hs : Stp T T' w1 w2) (hT : ∀ x, T x → w.heap.size ≤ x) (hST : ∀ x, S x → ¬ T x) : RS w S w2 k n M off acts armed ∧ ∀ x, S x → ¬ T' x := by
  obtain ⟨Λ, h1⟩ := h.h
  exact ⟨⟨h.b.trans (hs.below hT h.b.size), h.f, Λ, h1.heap (fun x hx => hs.oth x (h1.lt x hx) (hST x hx)) hs.b0.size⟩, fun x hx hx2 => by
    rcases hs.grow x hx2 with z | z
    · exact hST x hx z
    · have := h1.lt x hx; omega⟩
theorem RS.setO (h : RS w S w1 k n M off acts armed) {x : Nat} (hx : w.heap.size ≤ x) (hS : ¬ S x) (i : Nat) (u : Value) : RS w S (w1.setCell ⟨x, i, none⟩ u) k n M off acts armed :=
  h.other ((Below.refl _ _).setCell (p := ⟨x, i, none⟩) hx u) (fun y hy => Below.heap_setCell _ _ _ _ (fun e => hS (by have e2 : y = x := e; rw [← e2]; exact hy)))
end
end Go.Proofs.YtfadglcpapiklaaGreatDoor
end
section
namespace Go.Proofs.YtfadglcpapiklaaGreatDoor
open Go.RowKit
set_option linter.unusedVariables false
set_option linter.unusedSimpArgs false
set_option maxRecDepth 100000

/-- What lasts of a sector is another text. -/
theorem QBox.setT {w : World} {S : Nat → Prop} {m q cap : Nat} {fd : Bool} {L : List ByteArray} {V : Int → List ByteArray} {F : Nat → Value} (h : QBox w S m q cap fd L V F) (i : Nat) (hi : i < L.length) (t : ByteArray) (ht : t.size = 128) :
    QBox (w.setCell ⟨q, i * 2, none⟩ (.string t)) S m q cap fd (L.set i t) V F ∧ Stp S S w (w.setCell ⟨q, i * 2, none⟩ (.string t)) := by
  have k5 : ∀ k, k ≠ q → (w.setCell ⟨q, i * 2, none⟩ (.string t)).heap[k]? = w.heap[k]? := fun k hk => Below.heap_setCell _ _ _ _ hk
  have k4 : (w.setCell ⟨q, i * 2, none⟩ (.string t)).heap.size = w.heap.size := by simp
  have hA := h.l.setIn i (by rw [qL_len]; exact hi) 0 (by show 0 < 2; omega) (.string t) (t, F i) (by rw [qL_get _ _ _ _ hi]; rfl)
  rw [qL_set L F i hi, upq_self] at hA
  refine ⟨⟨?_, ?_, fun j hj => ?_, h.sm, h.sq, fun j hj => ?_, h.mq, fun k hk => by rw [k4]; exact h.lt k hk, fun z hz => ?_, by rw [List.length_set]; exact h.n1, by rw [List.length_set]; exact h.n2, fun s hs => ?_, h.zv⟩, ⟨⟨rfl, rfl, rfl, by rw [k4]; exact Nat.le_refl _, fun k hk => absurd hk (Nat.not_lt_zero _)⟩, fun k hk hn => k5 k (fun e => hn (e ▸ h.sq)), fun k hk => .inl hk⟩⟩
  · rw [k5 m h.mq, List.length_set]; exact h.b
  · rw [List.length_set]; exact hA
  · rw [List.length_set] at hj
    exact (h.r j hj).at_ fun k hk => k5 k (h.sr j hj k hk).2.2
  · rw [List.length_set] at hj
    exact h.sr j hj
  · rw [List.length_set]; exact h.keys z hz
  · rcases List.mem_or_eq_of_mem_set hs with x | x
    · exact h.zl s x
    · rw [x]; exact ht
end Go.Proofs.YtfadglcpapiklaaGreatDoor
end
