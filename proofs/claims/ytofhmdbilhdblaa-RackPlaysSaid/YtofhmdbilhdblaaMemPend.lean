/- member: which sectors are pending. -/
import Derived.Test.YtofhmdbilhdblaaMemNew
import Derived.Test.YtofhmdbilhdblaaShelf
import Derived.Shelf.SlIterI.Sorted
import Derived.Ground.GgzProg
import Derived.Shelf.Lay
namespace Go.Proofs.Ytofhmdbilhdblaa
open Go.RowKit Go.Maps Go.Sort Go.Shelf Go.Proofs
set_option linter.unusedVariables false
set_option linter.unusedSimpArgs false

/-- Where the library's functions stand here. -/
def zR : Ren := ⟨fun | 6 => 66 | 7 => 67 | 8 => 81 | 9 => 82 | 10 => 83 | 11 => 84 | n => n,
  fun | 0 => 0 | 4 => 4 | 3 => 71 | 23 => 72 | 24 => 31 | 26 => 3 | 27 => 85 | 28 => 86 | 33 => 63 | n => n, fun n => n⟩
theorem zK : SlLaysZI.n7 Try.prog zR := {
  mixed := by kernel_rfl
  f7 := ⟨"maps.Keys[map[int][]stave/member.content,int,[]stave/member.content]", by decide, Try.func67.trans (congrArg some (by kernel_rfl))⟩
  f10 := ⟨"maps.Keys[map[int][]stave/member.content,int,[]stave/member.content]$1", by decide, Try.func83.trans (congrArg some (by kernel_rfl))⟩
  t0 := Try.underlying0
  a0 := Try.isAgg0
  z0 := Try.sizeOf0
  v0 := Try.zeroValue0
  t4 := Try.underlying4
  a4 := Try.isAgg4
  z4 := Try.sizeOf4
  v4 := Try.zeroValue4
  t23 := Try.underlying72
  a23 := Try.isAgg72
  z23 := Try.sizeOf72
  v23 := Try.zeroValue72
  t26 := Try.underlying3
  a26 := Try.isAgg3
  z26 := Try.sizeOf3
  v26 := Try.zeroValue3
  t27 := Try.underlying85
  a27 := Try.isAgg85
  z27 := Try.sizeOf85
  v27 := Try.zeroValue85
  t28 := Try.underlying86
  a28 := Try.isAgg86
  z28 := Try.sizeOf86
  v28 := Try.zeroValue86
  t33 := Try.underlying63
  a33 := Try.isAgg63
  z33 := Try.sizeOf63
  v33 := Try.zeroValue63 }
theorem zS : SlLaysZI.n6 Try.prog zR := {
  mixed := by kernel_rfl
  f6 := ⟨"slices.Sorted[int]", by decide, Try.func66.trans (congrArg some (by kernel_rfl))⟩
  f8 := ⟨"slices.Collect[int]", by decide, Try.func81.trans (congrArg some (by kernel_rfl))⟩
  f11 := ⟨"slices.AppendSeq[[]int,int]", by decide, Try.func84.trans (congrArg some (by kernel_rfl))⟩
  t0 := Try.underlying0
  a0 := Try.isAgg0
  z0 := Try.sizeOf0
  v0 := Try.zeroValue0
  t24 := Try.underlying31
  a24 := Try.isAgg31
  z24 := Try.sizeOf31
  v24 := Try.zeroValue31
  t26 := Try.underlying3
  a26 := Try.isAgg3
  z26 := Try.sizeOf3
  v26 := Try.zeroValue3
  t28 := Try.underlying86
  a28 := Try.isAgg86
  z28 := Try.sizeOf86
  v28 := Try.zeroValue86
  i26 := by kernel_rfl }
theorem sorts_wide (m : Nat) : AnyZI.SortsIn Try.prog zR Fence.wide m :=
  ⟨fun blk off cap ss W hH hblk hsz => callsIn_wide.2 (Try.slices_Sort_int blk off cap ss W hH hblk hsz), fun p cap W => callsIn_wide.2 (Try.slices_Sort_int_none p cap W)⟩
/-- What the keys of such a map are. -/
theorem ownsMap_keys {w : World} {P : Program} {k : TypeId} {b n : Nat} {D : DataW Value} (hk : P.underlying k = some (.int .i64)) (h1 : w.ownsMap P k RV b n D) : ∃ l, D = .map l ∧ l.Pairwise (fun p q => p.1 ≠ q.1) ∧ ∀ p ∈ l, ∃ a, p.1 = kz a ∧ In64 a := by
  obtain ⟨l, hl, hp, hkey⟩ := h1.entries (Maps.int_keyed hk)
  refine ⟨l, hl, hp, fun p hpm => ?_⟩
  obtain ⟨es, clock, hb, F, hs, hD⟩ := h1
  have hpm' : p ∈ ((es.toList.map (WideElems.rg P k RV)).foldr DataW.insert []) := by rw [hl] at hD; injection hD with hD; rw [← hD]; exact hpm
  obtain ⟨x, hxe, rfl⟩ := List.mem_map.1 (mem_sorted.1 hpm')
  obtain ⟨y, hy⟩ := F.reads x hxe
  obtain ⟨a, _, ha2, haw⟩ := Maps.keyOf_int_inv hk (WideElems.rd_key hy)
  exact ⟨a, by rw [WideElems.rg_of hy]; exact ha2, haw⟩
/-- The sectors that have pending versions, in order. -/
def pend (n : Nat) (V : Int → List ByteArray) : List Int := ((List.range n).filter fun i : Nat => zOf V (i : Int)).map fun i : Nat => (i : Int)
theorem mem_pend {n : Nat} {V : Int → List ByteArray} {x : Int} : x ∈ pend n V ↔ ∃ i : Nat, i < n ∧ zOf V (i : Int) = true ∧ x = (i : Int) := by
  unfold pend
  simp only [List.mem_map, List.mem_filter, List.mem_range]
  exact ⟨fun ⟨i, ⟨h1, h2⟩, h3⟩ => ⟨i, h1, h2, h3.symm⟩, fun ⟨i, h1, h2, h3⟩ => ⟨i, ⟨h1, h2⟩, h3.symm⟩⟩
theorem pend_lt (n : Nat) (V : Int → List ByteArray) : (pend n V).Pairwise (fun x y => x < y) := by
  unfold pend
  rw [List.pairwise_map]
  exact (List.pairwise_lt_range.filter _).imp fun {a b} h => by omega
theorem pend_le (n : Nat) (V : Int → List ByteArray) : (pend n V).length ≤ n := by
  unfold pend; rw [List.length_map]; have := List.length_filter_le (fun i : Nat => zOf V (i : Int)) (List.range n); simpa using this
theorem pend_perm {w : World} {b n N : Nat} {V : Int → List ByteArray} {F : Int → Value} {D : DataW Value} (hk : Try.prog.underlying 3 = some (.int .i64)) (h1 : w.ownsMap Try.prog 3 RV b N D) (h2 : ∀ z, In64 z → Maps.has D (kz z) = zOf V z)
    (hn : n ≤ 256) (hkeys : ∀ z, In64 z → V z ≠ [] → 0 ≤ z ∧ z < (n : Int)) : (pend n V).Perm (intKeys D) := by
  obtain ⟨l, rfl, hp, hka⟩ := ownsMap_keys hk h1
  refine perm_intKeys hp (fun p hpm => by obtain ⟨a, ha, _⟩ := hka p hpm; exact ⟨a, ha⟩) ((pend_lt n V).imp fun h => by omega) (fun x => ?_)
  by_cases hx : In64 x
  · show _ ↔ Maps.has (.map l) (kz x) = true
    rw [h2 x hx, mem_pend]
    constructor
    · rintro ⟨i, _, h, rfl⟩; exact h
    · intro h
      have hv : V x ≠ [] := fun e => by unfold zOf at h; rw [e] at h; simp at h
      obtain ⟨h3, h4⟩ := hkeys x hx hv
      have e : ((x.toNat : Nat) : Int) = x := Int.toNat_of_nonneg h3
      exact ⟨x.toNat, by omega, by rw [e]; exact h, e.symm⟩
  · constructor
    · intro h
      obtain ⟨i, hi, _, rfl⟩ := mem_pend.1 h
      exact absurd (in64_nat i (by omega)) hx
    · intro h
      obtain ⟨p, hpm, hs⟩ := List.any_eq_true.1 h
      obtain ⟨a, ha, haw⟩ := hka p hpm
      have e := WideAt.sameKey_eq hs
      rw [ha] at e
      injection e with _ e
      exact absurd (e ▸ haw) hx
theorem sort_pend {n : Nat} {V : Int → List ByteArray} {ss : List Int} (h : ss.Perm (pend n V)) : (ss.mergeSort fun x y => decide (x ≤ y)) = pend n V := by
  refine List.Perm.eq_of_pairwise (le := fun a b => decide (a ≤ b) = true) (fun a b _ _ h1 h2 => ?_) (List.pairwise_mergeSort (fun a b c h1 h2 => ?_) (fun a b => ?_) ss) ((pend_lt n V).imp fun h => by simp; omega) ((List.mergeSort_perm ss _).trans h)
  · simp at h1 h2; omega
  · simp at h1 h2 ⊢; omega
  · simp; omega
/-- What is pending, as a slice of the call's own. -/
def GivesP (w : World) (l : List Int) (e : Ending) (w' : World) : Prop := ∃ v, e = .returned v ∧ Below w.heap.size w w' ∧ Own w' w.heap.size 3 v (l.map (.int .i64))
set_option maxHeartbeats 1000000 in
theorem pend_any {w : World} {S : Nat → Prop} {m g bp cap : Nat} {fd : Bool} {L : List ByteArray} {V : Int → List ByteArray} {F : Int → Value} (h : PBox w S m g bp cap fd L V F) :
    Calls Try.prog 32 #[.pointer (some ⟨m, 0, none⟩)] w (GivesP w (pend L.length V)) := by
  have c2 := h.c2
  have hn2 := h.n2
  obtain ⟨D, hD, hz⟩ := h.p
  have hperm := pend_perm (n := L.length) (V := V) (F := F) Try.underlying3 hD (fun z hz' => (hz z hz').1) h.n2 h.keys
  have hbl := hD.lt
  have hsz : Maps.size D ≤ 256 := Nat.le_trans hD.size_le hn2
  have cK := callsIn_wide.1 (AnyZI.keys_in zK Fence.wide 6 trivial rfl (some bp) w)
  have hseq : SeqGives Fence.wide 2 Try.prog (zR.f 10) #[.pointer (some ⟨w.heap.size, 0, none⟩)] encZ (fun ss => ss.Perm (intKeys D)) (Maps.size D) (w.alloc (.cells #[.map (some bp)] 72)) :=
    AnyZI.keys_gives { zK with } Fence.wide _ trivial rfl (by omega) w.heap.size bp L.length D _ (by simp) (by simp) (by
      obtain ⟨es, clock, hb, Ft, hs, hDD⟩ := hD
      exact ⟨es, clock, (Below.heap_alloc _ _ bp hbl).trans hb, Ft, hs, hDD⟩)
  have cS := callsIn_wide.1 (AnyZI.sorted_in zS Fence.wide 5 trivial trivial trivial trivial rfl (by omega) (sorts_wide _) (fun args w => enters_of Try.func82 (by kernel_rfl) rfl args w) (zR.f 10) _ trivial (fun args w => enters_of Try.func83 (by kernel_rfl) rfl args w) _ _ (by unfold maxLen; omega) (by omega) _ hseq)
  clear hD hz hseq h hn2 hbl hsz
  go_enter Try.func32, Try.ntmps32
  go_wp2_with (fail)
  refine cK.mono ?_
  rintro e w' ⟨rfl, rfl⟩
  go_wp2_with (fail)
  refine cS.mono ?_
  rintro e w' ⟨v, ss, rfl, hS, hrow, hnil, hb⟩
  go_wp2_with (fail)
  go_ret
  have e := sort_pend (hS.trans hperm.symm)
  refine ⟨v, rfl, ((Below.refl _ w).alloc (Nat.le_refl _) _).trans (hb.mono (by simp)), ?_⟩
  rw [e] at hrow
  have hl : ss.length = ((pend L.length V).map (Value.int .i64)).length := by rw [List.length_map, ← e, List.length_mergeSort]
  rw [hl] at hrow
  exact Own.mono ⟨hrow⟩ (by simp)
end Go.Proofs.Ytofhmdbilhdblaa

