/- member: a member in memory. -/
import Derived.Test.YtofhmdbilhdblaaMemMap
import Derived.Test.YtofhmdbilhdblaaRowOps
import Derived.Test.YtofhmdbilhdblaaBytes
import Derived.Test.YtofhmdbilhdblaaCls
import Derived.Test.YtofhmdbilhdblaaOwn
import Derived.Tactics
import Derived.Tactics2
import Derived.LoopTactic
import Derived.RegionTactic
import Derived.Outline
import Derived.Deep.RegionWith
import Derived.Deep.MidRow
import Derived.Deep.WholeRow
import Derived.Deep.RegionHeld3
import Derived.Laws.Cover3
import Derived.Laws.OwnMore
import Derived.WideShapes
import Derived.WalkLawsBesides
namespace Go.Proofs.Ytofhmdbilhdblaa
open Go.RowKit
set_option linter.unusedVariables false
set_option linter.unusedSimpArgs false

/-- What a sector holds, in cells. -/
def contL (s : ByteArray) : List Value := (List.range 128).map fun i => byteVal (s.data.toList.getD i 0)
theorem contL_len (s : ByteArray) : (contL s).length = 128 := by simp [contL]
theorem contL_one (s : ByteArray) : ∀ u ∈ contL s, u.oneCell' = true := fun u hu => by
  obtain ⟨i, _, rfl⟩ := List.mem_map.1 hu; rfl
theorem contL_get (s : ByteArray) (i : Nat) (h : i < 128) : (contL s)[i]? = some (byteVal (s.data.toList.getD i 0)) := by simp [contL, h]
def EC : Enc ByteArray := ⟨128, contL, by omega, contL_len, contL_one⟩
theorem ec_k : EC.k = 128 := rfl
theorem ec_f (s : ByteArray) : EC.f s = contL s := rfl
def zero128 : ByteArray := lineOf (List.replicate 128 0)
theorem zero128_size : zero128.size = 128 := by rw [zero128, lineOf_size]; simp
set_option maxRecDepth 100000 in
theorem cont_info : (Try.prog.info? 80).map (fun i => (i.zero, i.size, i.bytes)) = some (some (.agg (contL zero128).toArray), 128, 128) := by kernel_rfl
theorem cont_gen {P : Program} {t : TypeId} {c : Value} {n k : Nat} (h : (P.info? t).map (fun i => (i.zero, i.size, i.bytes)) = some (some c, n, k)) :
    (P.info? t).map (fun i => (i.zero, i.size)) = some (some c, n) ∧ ∃ i, P.info? t = some i ∧ i.zero = some c ∧ i.size = n ∧ i.bytes = k := by
  cases hq : P.info? t with
  | none => rw [hq] at h; cases h
  | some i => rw [hq] at h; simp at h; exact ⟨by simp [h.1, h.2.1], i, rfl, h.1, h.2.1, h.2.2⟩
theorem cont_zs : (Try.prog.info? 80).map (fun i => (i.zero, i.size)) = some (some (.agg (contL zero128).toArray), 128) := (cont_gen cont_info).1
theorem cont_size (s : ByteArray) : (contL s).toArray.size = 128 := by rw [List.size_toArray, contL_len]
theorem cont_isz (s : ByteArray) : (Try.prog.info? 80).map (·.size) = some (contL s).length := by rw [contL_len]; exact (zero_of_info cont_zs).2
theorem cont_isa (s : ByteArray) : (Try.prog.info? 80).map (·.size) = some (contL s).toArray.size := by rw [cont_size]; exact (zero_of_info cont_zs).2
theorem cont_one (s : ByteArray) : (contL s).toArray.all (·.oneCell') = true := by
  rw [Array.all_eq_true_iff_forall_mem]
  intro u hu
  exact contL_one s u (by simpa using hu)
theorem cont_under : Try.prog.underlying 80 = some (.array 128 5) := by kernel_rfl
theorem cont_is : ∃ i, Try.prog.info? 80 = some i ∧ i.zero = some (.agg (contL zero128).toArray) ∧ i.size = EC.k ∧ i.bytes = 128 := (cont_gen cont_info).2
/-- A whole sector is read. -/
theorem cont_load {w : World} {b o : Nat} (s : ByteArray) (h : ∀ j, j < 128 → w.cell? ⟨b, o + j, none⟩ = (contL s)[j]?) : (Instr.loadAt 80 (.pointer (some ⟨b, o, none⟩))).run Try.prog w = .ok (.agg (contL s).toArray) w :=
  run_loadAt_mid w b o 80 (contL s) _ (fun j v hj => by
    have hl : j < 128 := by rw [← contL_len s]; exact (List.getElem?_eq_some_iff.1 hj).1
    rw [h j hl]; exact hj) cont_under rfl (cont_isz s)
theorem cont_str {w : World} {b : Nat} (s : ByteArray) (hs : s.size = 128) (h : ∀ j, j < 128 → w.cell? ⟨b, j, none⟩ = (contL s)[j]?) : (convert 81 9 (.slice (some ⟨b, 0, none⟩) 128 128)).run Try.prog w = .ok (.string s) w := by
  have hl : s.data.toList.length = 128 := by rw [← hs]; exact Array.length_toList
  have := run_convert_bytes_back (P := Try.prog) w 81 9 5 ⟨b, 0, none⟩ 128 s.data.toList Try.underlying81 Try.underlying5 Try.underlying9 (fun j hj => by
    rw [hl] at hj
    rw [addr_at, Nat.zero_add, h j hj, contL_get s j hj, List.getD_eq_getElem?_getD, List.getElem?_eq_getElem (by omega)]; rfl)
  rw [hl] at this
  exact this
theorem OwnE.sameAt {α : Type} {E : Enc α} {w w' : World} {B : Nat} {T : TypeId} {v : Value} {l : List α} (h : OwnE E w B T v l) (hk : ∀ k, v.ownBlock = some k → w'.heap[k]? = w.heap[k]?) : OwnE E w' B T v l := by
  refine ⟨h.o.1, ?_⟩
  rcases h.o.2 with h1 | ⟨g, cap, cur, h1, h2, h3, h4⟩
  · exact .inl h1
  · exact .inr ⟨g, cap, cur, h1, h2, by rw [hk g (by rw [h1]; rfl)]; exact h3, h4⟩
def nilS : Value := .slice none 0 0
def zOf (V : Int → List ByteArray) : Int → Bool := fun z => !(V z).isEmpty
/-- A member in memory: its box m, what lasts in block g, the map bp of what is pending; S holds all its blocks. -/
structure PBox (w : World) (S : Nat → Prop) (m g bp cap : Nat) (fd : Bool) (L : List ByteArray) (V : Int → List ByteArray) (F : Int → Value) : Prop where
  b : w.heap[m]? = some (.cells #[.bool fd, .slice (some ⟨g, 0, none⟩) L.length cap, .map (some bp)] 74 (0, 0))
  l : OwnE EC w 0 80 (.slice (some ⟨g, 0, none⟩) L.length cap) L
  p : MapZ w Try.prog 3 bp L.length (zOf V) F nilS
  r : ∀ z, In64 z → OwnE EC w 0 80 (F z) (V z)
  sm : S m
  sg : S g
  sp : S bp
  sr : ∀ z, In64 z → ∀ k, (F z).ownBlock = some k → S k ∧ k ≠ m ∧ k ≠ g ∧ k ≠ bp
  ap : ∀ y z, In64 y → In64 z → y ≠ z → Apart (F y) (F z)
  mg : m ≠ g
  mp : m ≠ bp
  gp : g ≠ bp
  lt : ∀ k, S k → k < w.heap.size
  keys : ∀ z, In64 z → V z ≠ [] → 0 ≤ z ∧ z < (L.length : Int)
  n1 : 1 ≤ L.length
  n2 : L.length ≤ 256
  zl : ∀ s ∈ L, s.size = 128
  zv : ∀ z, ∀ s ∈ V z, s.size = 128
theorem cell_of_heap {w w' : World} {b : Nat} (h : w'.heap[b]? = w.heap[b]?) (o : Nat) : w'.cell? ⟨b, o, none⟩ = w.cell? ⟨b, o, none⟩ := by simp only [World.cell?, h]
section
variable {w w' : World} {S : Nat → Prop} {m g bp cap : Nat} {fd : Bool} {L : List ByteArray} {V : Int → List ByteArray} {F : Int → Value}
theorem PBox.heap (h : PBox w S m g bp cap fd L V F) (e : ∀ k, S k → w'.heap[k]? = w.heap[k]?) (hs : w.heap.size ≤ w'.heap.size) : PBox w' S m g bp cap fd L V F :=
  ⟨(e m h.sm).trans h.b, h.l.sameAt fun k hk => by injection hk with hk; subst hk; exact e _ h.sg, h.p.heap (e bp h.sp), fun z hz => (h.r z hz).sameAt fun k hk => e k (h.sr z hz k hk).1, h.sm, h.sg, h.sp, h.sr, h.ap, h.mg, h.mp, h.gp,
    fun k hk => Nat.lt_of_lt_of_le (h.lt k hk) hs, h.keys, h.n1, h.n2, h.zl, h.zv⟩
theorem PBox.below (h : PBox w S m g bp cap fd L V F) (hb : Below w.heap.size w w') : PBox w' S m g bp cap fd L V F := h.heap (fun k hk => hb.block k (h.lt k hk)) hb.size
theorem PBox.c0 (h : PBox w S m g bp cap fd L V F) : w.cell? ⟨m, 0, none⟩ = some (.bool fd) := by simp [World.cell?, h.b]
theorem PBox.c1 (h : PBox w S m g bp cap fd L V F) : w.cell? ⟨m, 1, none⟩ = some (.slice (some ⟨g, 0, none⟩) L.length cap) := by simp [World.cell?, h.b]
theorem PBox.c2 (h : PBox w S m g bp cap fd L V F) : w.cell? ⟨m, 2, none⟩ = some (.map (some bp)) := by simp [World.cell?, h.b]
theorem PBox.f (h : PBox w S m g bp cap fd L V F) (o : Nat) : w.frozen? ⟨m, o, none⟩ = false := by simp [World.frozen?, h.b]
theorem zero_slice : ∀ w, (zeroValue 71).run Try.prog w = .ok nilS w := Try.zeroValue71
theorem PBox.look (h : PBox w S m g bp cap fd L V F) {z : Int} (hz : In64 z) : (Instr.lookup 72 (.map (some bp)) (.int .i64 z) false).run Try.prog w = .ok (F z) w :=
  h.p.look Try.underlying3 Try.underlying72 zero_slice hz
theorem PBox.loadL (h : PBox w S m g bp cap fd L V F) {i : Nat} (hi : i < L.length) : (Instr.loadAt 80 (.pointer (some ⟨g, i * 128, none⟩))).run Try.prog w = .ok (.agg (contL L[i]).toArray) w :=
  cont_load _ fun j hj => h.l.cell hi hj
theorem row_load {v : Value} {l : List ByteArray} {gg n c : Nat} (h : OwnE EC w 0 80 (.slice (some ⟨gg, 0, none⟩) n c) l) {i : Nat} (hi : i < l.length) : (Instr.loadAt 80 (.pointer (some ⟨gg, i * 128, none⟩))).run Try.prog w = .ok (.agg (contL l[i]).toArray) w :=
  cont_load _ fun j hj => h.cell hi hj
end
def hasN (L : List ByteArray) (n : Int) : Bool := decide (0 ≤ n) && decide (n < (L.length : Int))
theorem has_any {w : World} {S : Nat → Prop} {m g bp cap : Nat} {fd : Bool} {L : List ByteArray} {V : Int → List ByteArray} {F : Int → Value} (h : PBox w S m g bp cap fd L V F) (n : Int) :
    Calls Try.prog 65 #[.pointer (some ⟨m, 0, none⟩), .int .i64 n] w fun e w' => e = .returned (.bool (hasN L n)) ∧ w = w' := by
  have c1 := h.c1
  clear h
  unfold hasN
  by_cases h0 : 0 ≤ n
  · have t1 : decide (0 ≤ n) = true := decide_eq_true h0
    clear h0
    rw [t1, Bool.true_and]
    go_enter Try.func65, Try.ntmps65
    go_wp2
    go_ret
    exact ⟨rfl, rfl⟩
  · have t1 : decide (0 ≤ n) = false := decide_eq_false h0
    clear h0
    rw [t1, Bool.false_and]
    go_enter Try.func65, Try.ntmps65
    go_wp2
    go_ret
    exact ⟨rfl, rfl⟩
theorem size_any {w : World} {S : Nat → Prop} {m g bp cap : Nat} {fd : Bool} {L : List ByteArray} {V : Int → List ByteArray} {F : Int → Value} (h : PBox w S m g bp cap fd L V F) :
    Calls Try.prog 27 #[.pointer (some ⟨m, 0, none⟩)] w fun e w' => e = .returned (.int .i64 (L.length : Int)) ∧ w = w' := by
  have c1 := h.c1
  clear h
  go_enter Try.func27, Try.ntmps27
  go_wp2
  go_ret
  exact ⟨rfl, rfl⟩
theorem alive_any {w : World} {S : Nat → Prop} {m g bp cap : Nat} {fd : Bool} {L : List ByteArray} {V : Int → List ByteArray} {F : Int → Value} (h : PBox w S m g bp cap fd L V F) :
    Calls Try.prog 25 #[.pointer (some ⟨m, 0, none⟩)] w fun e w' => e = .returned (.bool (!fd)) ∧ w = w' := by
  have c0 := h.c0
  clear h
  go_enter Try.func25, Try.ntmps25
  go_wp2
  go_ret
  exact ⟨rfl, rfl⟩
theorem vers_any {w : World} {S : Nat → Prop} {m g bp cap : Nat} {fd : Bool} {L : List ByteArray} {V : Int → List ByteArray} {F : Int → Value} (h : PBox w S m g bp cap fd L V F) (n : Int) (hn : In64 n) :
    Calls Try.prog 29 #[.pointer (some ⟨m, 0, none⟩), .int .i64 n] w fun e w' => e = .returned (.int .i64 ((V n).length : Int)) ∧ w = w' := by
  have c2 := h.c2
  have hl := h.look hn
  have hr := (h.r n hn).reads
  have hlen := fun W => hr.len_run (P := Try.prog) Try.underlying71 3 W
  clear h hr
  generalize F n = v at *
  go_enter Try.func29, Try.ntmps29
  go_wp2
  go_ret
  exact ⟨rfl, rfl⟩
end Go.Proofs.Ytofhmdbilhdblaa

