/- trie: each count is how many pointers lead there, in one text: scripts that came in, what was put of blocks that nobody has, the walk from node to node, the law's walk. -/
import Derived.Test.YtlbjfigdocbffaaTriAwake
import Derived.Test.YtlbjfigdocbffaaTriPlays
import Derived.Test.YtlbjfigdocbffaaShelf
import Derived.Shelf.SlIterI.Sorted
import Derived.Ground.GgzProg
import Derived.Shelf.Lay
namespace Go.Proofs.Ytlbjfigdocbffaa
open Go.RowKit
set_option linter.unusedVariables false
set_option linter.unusedSimpArgs false

theorem BTo.below {w w' : World} {g m rb kb tb B : Nat} (h : BTo w g m rb kb tb w') (hB : B ≤ w.heap.size) (hd : B ≤ rb ∧ B ≤ kb ∧ B ≤ tb ∧ B ≤ g ∧ B ≤ m) : Below B w w' :=
  ⟨h.b0.os, h.b0.tape, h.b0.output, h.b0.size, fun q hq => h.oth q (by omega) (by omega) (by omega) (by omega) (by omega) (by omega)⟩
section
variable {w w0 w' : World} {bk rb kb tb h g m : Nat} {u : Value} {Y : Tri.TW ByteArray} {Z : Int → Bool} {R : Nat → Nat} {G : Nat → Prop} {lv pos : Nat → Nat} {kv tv : Nat → Value}
set_option maxRecDepth 100000 in
set_option maxHeartbeats 2000000 in
theorem plays_nil (B : Bk w bk rb kb tb h g m u Y Z R G lv pos kv tv) (a : Option Addr) (c : Nat) :
    Calls Try.prog 10 #[.pointer (some ⟨bk, 0, none⟩), .slice a 0 c] w (PlaysG w bk rb kb tb h g m u) := by
  have HB := Lib.hid B
  clear B
  go_enter Try.func10, Try.ntmps10
  go_wp2_with (fail)
  go_loopw [5, 6, 7, 8, 9, 10, 11, 12, 13, 14, 15] (fun i _ _ _ _ _ _ _ _ _ _ wr => i = .int .i64 0 ∧ wr = w) (fun i _ _ _ _ _ _ _ _ _ _ _ => 0)
  case atStart => exact ⟨rfl, rfl⟩
  case round =>
    obtain ⟨rfl, rfl⟩ := hrel
    go_wp2_with (fail)
    go_ret
    exact ⟨rfl, BTo.refl _ _ _ _ _ _, _, _, _, _, _, _, _, _, HB.out⟩
/-- A script that came in. -/
theorem plays_come (B : Bk w bk rb kb tb h g m u Y Z R G lv pos kv tv) {v : Value} {L : List OpR} (hs : ReadsE opE w0 v L) (hok : ∀ p ∈ L, OpOk p) (hb : Below w0.heap.size w0 w) (hd : w0.heap.size ≤ rb ∧ w0.heap.size ≤ kb ∧ w0.heap.size ≤ tb ∧ w0.heap.size ≤ g ∧ w0.heap.size ≤ m) :
    Calls Try.prog 10 #[.pointer (some ⟨bk, 0, none⟩), v] w (PlaysG w bk rb kb tb h g m u) := by
  have hs2 := hs.below hb
  rcases hs with ⟨⟨a, c, rfl⟩, rfl⟩ | ⟨b, off, cap, rfl, h2, _⟩
  · exact plays_nil B a c
  · exact plays_any B _ L hs2 hok fun q hq => by
      have e : b = q := by simpa [Value.ownBlock] using hq
      subst e
      omega
end
section
open Go.Maps Go.Sort Go.Shelf Go.Proofs

/-- Where the library's functions stand here. -/
def zR : Ren := ⟨fun | 6 => 37 | 7 => 38 | 8 => 51 | 9 => 52 | 10 => 53 | 11 => 59 | n => n,
  fun | 0 => 0 | 4 => 4 | 3 => 80 | 23 => 78 | 24 => 28 | 26 => 3 | 27 => 75 | 28 => 76 | 33 => 85 | n => n, fun n => n⟩
theorem zK : SlLaysZI.n7 Try.prog zR := {
  mixed := by kernel_rfl
  f7 := ⟨"maps.Keys[map[int]stave/trie.content,int,stave/trie.content]", by decide, Try.func38.trans (congrArg some (by kernel_rfl))⟩
  f10 := ⟨"maps.Keys[map[int]stave/trie.content,int,stave/trie.content]$1", by decide, Try.func53.trans (congrArg some (by kernel_rfl))⟩
  t0 := Try.underlying0
  a0 := Try.isAgg0
  z0 := Try.sizeOf0
  v0 := Try.zeroValue0
  t4 := Try.underlying4
  a4 := Try.isAgg4
  z4 := Try.sizeOf4
  v4 := Try.zeroValue4
  t23 := Try.underlying78
  a23 := Try.isAgg78
  z23 := Try.sizeOf78
  v23 := Try.zeroValue78
  t26 := Try.underlying3
  a26 := Try.isAgg3
  z26 := Try.sizeOf3
  v26 := Try.zeroValue3
  t27 := Try.underlying75
  a27 := Try.isAgg75
  z27 := Try.sizeOf75
  v27 := Try.zeroValue75
  t28 := Try.underlying76
  a28 := Try.isAgg76
  z28 := Try.sizeOf76
  v28 := Try.zeroValue76
  t33 := Try.underlying85
  a33 := Try.isAgg85
  z33 := Try.sizeOf85
  v33 := Try.zeroValue85 }
theorem zS : SlLaysZI.n6 Try.prog zR := {
  mixed := by kernel_rfl
  f6 := ⟨"slices.Sorted[int]", by decide, Try.func37.trans (congrArg some (by kernel_rfl))⟩
  f8 := ⟨"slices.Collect[int]", by decide, Try.func51.trans (congrArg some (by kernel_rfl))⟩
  f11 := ⟨"slices.AppendSeq[[]int,int]", by decide, Try.func59.trans (congrArg some (by kernel_rfl))⟩
  t0 := Try.underlying0
  a0 := Try.isAgg0
  z0 := Try.sizeOf0
  v0 := Try.zeroValue0
  t24 := Try.underlying28
  a24 := Try.isAgg28
  z24 := Try.sizeOf28
  v24 := Try.zeroValue28
  t26 := Try.underlying3
  a26 := Try.isAgg3
  z26 := Try.sizeOf3
  v26 := Try.zeroValue3
  t28 := Try.underlying76
  a28 := Try.isAgg76
  z28 := Try.sizeOf76
  v28 := Try.zeroValue76
  i26 := by kernel_rfl }
theorem sorts_wide (m : Nat) : AnyZI.SortsIn Try.prog zR Fence.wide m :=
  ⟨fun blk off cap ss W hH hblk hsz => callsIn_wide.2 (Try.slices_Sort_int blk off cap ss W hH hblk hsz), fun p cap W => callsIn_wide.2 (Try.slices_Sort_int_none p cap W)⟩
theorem cntd_none {n : Nat} {C : Nat → Nat} (hC : ∀ i, 3 ≤ i → C i = 0) (b : Int) : cntdB n C b = false := by
  unfold cntdB cntV
  rw [decide_eq_false_iff_not]
  rintro ⟨h1, h2⟩
  split at h2
  · rw [hC _ (by omega)] at h2; omega
  · omega
section
variable {w w' : World} {h g m n : Nat} {u : Value} {C : Nat → Nat} {Z : Int → Bool} {F : Int → Value} {X : Nat → ByteArray}
set_option maxRecDepth 100000 in
set_option maxHeartbeats 2000000 in
theorem changed_none (H0 : Hp w h g m n u C Z X) (hC : ∀ i, 3 ≤ i → C i = 0) :
    Calls Try.prog 16 #[.pointer (some ⟨h, 0, none⟩)] w (Same2 w (.slice none 0 0)) := by
  obtain ⟨F, H⟩ := H0
  have c2 : w.cell? ⟨h, 2, none⟩ = some (.map (some m)) := H.c2
  have hn2 := H.sm.n200
  obtain ⟨D, hD, hz⟩ := H.p
  have hbl := hD.lt
  have hsz : Maps.size D ≤ 256 := Nat.le_trans hD.size_le (by omega)
  have cK := callsIn_wide.1 (AnyZI.keys_in zK Fence.wide 6 trivial rfl (some m) w)
  have hseq : SeqGives Fence.wide 2 Try.prog (zR.f 10) #[.pointer (some ⟨w.heap.size, 0, none⟩)] encZ (fun ss => ss.Perm (intKeys D)) (Maps.size D) (w.alloc (.cells #[.map (some m)] 78)) :=
    AnyZI.keys_gives { zK with } Fence.wide _ trivial rfl (by omega) w.heap.size m n D _ (by simp) (by simp) (by
      obtain ⟨es, clock, hb, Ft, hs, hDD⟩ := hD
      exact ⟨es, clock, (Below.heap_alloc _ _ m hbl).trans hb, Ft, hs, hDD⟩)
  have cS := callsIn_wide.1 (AnyZI.sorted_in zS Fence.wide 5 trivial trivial trivial trivial rfl (by omega) (sorts_wide _) (fun args w => enters_of Try.func52 (by kernel_rfl) rfl args w) (zR.f 10) _ trivial (fun args w => enters_of Try.func53 (by kernel_rfl) rfl args w) _ _ (by unfold maxLen; omega) (by omega) _ hseq)
  have HH := Lib.hid H
  clear hD hz hseq H hbl
  go_enter Try.func16, Try.ntmps16
  go_wp2_with (fail)
  refine cK.mono ?_
  rintro e w' ⟨rfl, rfl⟩
  go_wp2_with (fail)
  refine cS.mono ?_
  rintro e w2 ⟨v, ss, rfl, hS, hrow, hnil, hb⟩
  have hb2 : Below w.heap.size w w2 := ((Below.refl _ w).alloc (Nat.le_refl _) _).trans (hb.mono (by simp))
  obtain ⟨l, hl⟩ : ∃ l, l = (ss.mergeSort fun x y => decide (x ≤ y)) := ⟨_, rfl⟩
  have hll : ss.length = (l.map (Value.int .i64)).length := by rw [List.length_map, hl, List.length_mergeSort]
  rw [← hl, hll] at hrow
  have ho : Own w2 w.heap.size 3 v (l.map (.int .i64)) := Own.mono ⟨hrow⟩ (by simp)
  obtain ⟨va, vc, hv, hit⟩ := Reads.items ho.reads
  subst hv
  have HIT : Hid (∀ i (hi : i < l.length), ∃ cb co, va = some ⟨cb, co, none⟩ ∧ w2.cell? ⟨cb, co + i, none⟩ = some (.int .i64 l[i])) := Lib.hid fun i hi => by
    obtain ⟨cb, co, e1, e2, e3⟩ := hit i hi
    exact ⟨cb, co, e1, e3⟩
  have hlb : l.length ≤ 9223372036854775807 := by
    have := hsz
    have h2 : ss.length = l.length := by rw [hll, List.length_map]
    have h3 : ss.length ≤ Maps.size D := by
      have := hS.length_eq
      rw [this]
      cases D <;> simp [intKeys, Maps.size]
    omega
  have ca : Hid (∀ b : Int, Calls Try.prog 39 #[.pointer (some ⟨h, 0, none⟩), .int .i64 b] w2 fun e w' => e = .returned (.bool false) ∧ w2 = w') := Lib.hid fun b => by
    have := lent_any (HH.out.below hb2) b
    rw [cntd_none hC] at this
    exact this
  have hfin := Lib.hid hb2
  clear hS hrow hnil hb hb2 hl hll ho hit
  go_wp2_with (fail)
  go_loopw [3, 5, 6, 14] (fun s _ _ t wz => ∃ i : Nat, i ≤ l.length ∧ t = .int .i64 (i : Int) ∧ s = .slice none 0 0 ∧ wz = w2) (fun _ _ _ t _ => l.length - (intOf t).toNat)
  case atStart => exact ⟨0, Nat.zero_le _, rfl, rfl, rfl⟩
  case round =>
    obtain ⟨i, hi, rfl, rfl, rfl⟩ := hrel
    by_cases hlt : i < l.length
    · have z1 : (i : Int) < (l.length : Int) := by omega
      obtain ⟨cb, co, rfl, hc⟩ := HIT.out i hlt
      have cal := ca.out l[i]
      generalize l[i] = x at *
      go_wp2_with (fail)
      refine cal.mono ?_
      rintro e w' ⟨rfl, rfl⟩
      go_wp2_with (fail)
      go_roundw
      case rel => exact ⟨i + 1, by omega, by go_num, by first | rfl | trivial, by first | rfl | trivial⟩
      case measure => simp [intOf]; omega
    · obtain rfl : i = l.length := by omega
      have z1 : ¬ ((l.length : Int) < (l.length : Int)) := by omega
      go_wp2_with (fail)
      go_ret
      exact ⟨rfl, hfin.out⟩
end
end

theorem str_idx17 (s : ByteArray) (k : Nat) (hk : k < s.size) (W : World) : (Instr.index 9 (.string s) (.int .i64 (k : Int))).run Try.prog W = .ok (.int .u8 ((s[k].toNat : Nat) : Int)) W := by
  simp [Instr.index, run_underlying Try.underlying9, asIntOf, hk]
theorem ntext_at {e : Nat → Nat} (he : ∀ i, i < 16 → e i ≤ 255) (k : Nat) (hk : k < (ntext e).size) : ((ntext e)[k]).toNat = if k < 16 then e k else 0 := by
  have h0 : k < 120 := by rw [ntext_size] at hk; exact hk
  have h1 : (ntext e).data.toList = (List.range 120).map fun i => if i < 16 then UInt8.ofNat (e i) else 0 := rfl
  have h2 : (ntext e)[k] = (ntext e).data.toList[k]'(by rw [h1]; simpa using h0) := by rw [Array.getElem_toList]; rfl
  refine (congrArg UInt8.toNat h2).trans ?_
  simp only [h1, List.getElem_map, List.getElem_range]
  by_cases z : k < 16
  · rw [if_pos z, if_pos z, UInt8.toNat_ofNat']
    have := he k z
    exact Nat.mod_eq_of_lt (by omega)
  · rw [if_neg z, if_neg z]; rfl
theorem loopL_snoc (f : Nat → (Nat → Nat) → Nat → Nat) (n : Nat → Nat) : ∀ d j S, Tri.loopL f n (d + 1) j S = if n (j + d) = 0 then Tri.loopL f n d j S else f (n (j + d)) (Tri.loopL f n d j S)
  | 0, j, S => rfl
  | d + 1, j, S => by
    have e1 : Tri.loopL f n (d + 1 + 1) j S = Tri.loopL f n (d + 1) (j + 1) (if n j = 0 then S else f (n j) S) := rfl
    have e2 : Tri.loopL f n (d + 1) j S = Tri.loopL f n d (j + 1) (if n j = 0 then S else f (n j) S) := rfl
    rw [e1, loopL_snoc f n d (j + 1), e2, show j + 1 + d = j + (d + 1) by omega]
def mB : Nat → Nat
  | 0 => 1
  | l + 1 => 1 + 16 * mB l
theorem one_le1 (n x : Nat) : Tri.one n x ≤ 1 := by unfold Tri.one; split <;> omega
theorem loopL_le {f : Nat → (Nat → Nat) → Nat → Nat} {M : Nat} (hf : ∀ n S x, f n S x ≤ S x + M) (n : Nat → Nat) (S : Nat → Nat) (x : Nat) : ∀ d, Tri.loopL f n d 0 S x ≤ S x + d * M
  | 0 => by show S x ≤ _; omega
  | d + 1 => by
    have ih := loopL_le hf n S x d
    rw [loopL_snoc, Nat.zero_add, Nat.succ_mul]
    split
    · omega
    · have := hf (n d) (Tri.loopL f n d 0 S) x
      omega
theorem dfs_le (e : Nat → Nat → Nat) : ∀ l n S x, Tri.dfs e l n S x ≤ S x + mB l
  | 0, n, S, x => by show S x + Tri.one n x ≤ S x + 1; have := one_le1 n x; omega
  | l + 1, n, S, x => by
    rw [Tri.dfs_succ]
    have h1 := one_le1 n x
    have hm : mB (l + 1) = 1 + 16 * mB l := rfl
    by_cases z : 0 < S n
    · rw [if_pos z]; show S x + Tri.one n x ≤ _; omega
    · rw [if_neg z]
      have := loopL_le (dfs_le e l) (e n) (fun x => S x + Tri.one n x) x 16
      have this : Tri.dfsL e l (e n) 16 0 (fun x => S x + Tri.one n x) x ≤ (S x + Tri.one n x) + 16 * mB l := this
      omega
/-- What is seen, in cells. -/
def SeenAt (W : World) (sb : Nat) (S : Nat → Nat) : Prop := W.heap[sb]? = some (.cells (rowV 200 fun i => .int .i64 (S i : Int)).toArray 3 (0, 0))
theorem SeenAt.put {W : World} {sb : Nat} {S : Nat → Nat} (h : SeenAt W sb S) (n : Nat) : SeenAt (W.setCell ⟨sb, n, none⟩ (.int .i64 ((S n : Int) + 1))) sb (fun x => S x + Tri.one n x) := by
  unfold SeenAt
  rw [rowV_store h n]
  congr 2
  refine congrArg List.toArray ?_
  unfold rowV
  refine List.map_congr_left fun j _ => ?_
  unfold updF
  by_cases e : j = n
  · subst e; rw [if_pos rfl]; show _ = Value.int IntKind.i64 ((S j + Tri.one j j : Nat) : Int); rw [Tri.one_same]; rfl
  · rw [if_neg e]; show _ = Value.int IntKind.i64 ((S j + Tri.one n j : Nat) : Int); rw [Tri.one_other e]; rfl
def WalkG (W : World) (sb : Nat) (S : Nat → Nat) (e : Ending) (W' : World) : Prop := e = .returned (.bool true) ∧ HTo W sb sb W' ∧ SeenAt W' sb S
section
variable {w w' : World} {bk rb kb tb h g m : Nat} {u : Value} {Y : Tri.TW ByteArray} {Z : Int → Bool} {R : Nat → Nat} {G : Nat → Prop} {lv pos : Nat → Nat} {kv tv : Nat → Value}
set_option maxRecDepth 100000 in
set_option maxHeartbeats 4000000 in
theorem walk_any (B : Bk w bk rb kb tb h g m u Y Z R G lv pos kv tv) {sb : Nat} (hsb : w.heap.size ≤ sb) : ∀ (l d : Nat), l + d = 3 → ∀ (n : Nat) (S : Nat → Nat) (W : World), G n → lv n = l → (∀ x, S x + mB l ≤ 1000000) → Below w.heap.size w W → SeenAt W sb S →
    Calls Try.prog 12 #[.pointer (some ⟨bk, 0, none⟩), .int .i64 (n : Int), .int .i64 (d : Int), .slice (some ⟨sb, 0, none⟩) 200 200] W (WalkG W sb (Tri.dfs Y.σ.e l n S))
  | 0, d, hd, n, S, W, hG, hl, hS, hW, hs => by
    obtain rfl : d = 3 := by omega
    have hn := (B.ts.ok.i.rng n (.inl hG)).2
    have hn2 : (n : Int) < 200 := by omega
    have sc : W.cell? ⟨sb, n, none⟩ = some (.int .i64 (S n : Int)) := rowV_cell hs hn
    have fr : W.frozen? ⟨sb, n, none⟩ = false := frozen_of_row _ _ _ _ _ hs
    have hsn := hS n
    have hm0 : mB 0 = 1 := rfl
    have hfin : Hid (WalkG W sb (Tri.dfs Y.σ.e 0 n S) (.returned (.bool true)) (W.setCell ⟨sb, n, none⟩ (.int .i64 ((S n : Int) + 1)))) := Lib.hid ⟨rfl, ⟨⟨rfl, rfl, rfl, by simp, fun k hk => absurd hk (Nat.not_lt_zero _)⟩, fun k h1 h2 _ => Below.heap_setCell _ _ _ _ (fun e => h2 (by have e : k = sb := e; exact e))⟩, hs.put n⟩
    clear hs
    rw [hm0] at hsn
    go_enter Try.func12, Try.ntmps12
    go_wp2_with (fail)
    go_ret
    exact hfin.out
  | l + 1, d, hd, n, S, W, hG, hl, hS, hW, hs => by
    have td : ((d : Int) == 3) = false := by rw [beq_eq_false_iff_ne]; omega
    have hn := (B.ts.ok.i.rng n (.inl hG)).2
    have hn2 : (n : Int) < 200 := by omega
    have sc : W.cell? ⟨sb, n, none⟩ = some (.int .i64 (S n : Int)) := rowV_cell hs hn
    have fr : W.frozen? ⟨sb, n, none⟩ = false := frozen_of_row _ _ _ _ _ hs
    have hsn := hS n
    have hm1 : mB (l + 1) = 1 + 16 * mB l := rfl
    have HT1 : HTo W sb sb (W.setCell ⟨sb, n, none⟩ (.int .i64 ((S n : Int) + 1))) := ⟨⟨rfl, rfl, rfl, by simp, fun k hk => absurd hk (Nat.not_lt_zero _)⟩, fun k h1 h2 _ => Below.heap_setCell _ _ _ _ (fun e => h2 (by have e : k = sb := e; exact e))⟩
    have hs1 := hs.put n
    obtain ⟨W1, hW1⟩ : ∃ W1, W1 = W.setCell ⟨sb, n, none⟩ (.int .i64 ((S n : Int) + 1)) := ⟨_, rfl⟩
    rw [← hW1] at HT1 hs1
    have sc1 : W1.cell? ⟨sb, n, none⟩ = some (.int .i64 ((S n : Int) + 1)) := by
      have : W1.cell? ⟨sb, n, none⟩ = some (.int .i64 ((S n + Tri.one n n : Nat) : Int)) := rowV_cell hs1 hn
      rw [Tri.one_same] at this
      rw [this]; simp
    have hb1 : Below w.heap.size w W1 := hW.trans (HT1.below hsb hsb hW.size)
    by_cases hz : 0 < S n
    · have tz : (1 : Int) < (S n : Int) + 1 := by omega
      have hfin : Hid (WalkG W sb (Tri.dfs Y.σ.e (l + 1) n S) (.returned (.bool true)) W1) := Lib.hid ⟨rfl, HT1, by rw [Tri.dfs_succ, if_pos hz]; exact hs1⟩
      clear hs hs1 HT1 hb1
      rw [hm1] at hsn
      go_enter Try.func12, Try.ntmps12
      go_upto_region 2 with (fail)
      rw [← hW1]
      clear hW1
      go_wp2_with (fail)
      go_ret
      exact hfin.out
    · have tz : ¬ ((1 : Int) < (S n : Int) + 1) := by omega
      have b1 := B.below hb1
      have d1 := b1.bw.c1
      have crd : Calls Try.prog 35 #[.pointer (some ⟨h, 0, none⟩), .int .i64 (n : Int)] W1 (GivesS W1 (Y.T n)) := by
        obtain ⟨F, hF⟩ := b1.hp
        exact hread_any hF n hn
      rw [B.ts.ok.t n hG (by omega)] at crd
      have he : ∀ i, i < 16 → Y.σ.e n i ≤ 255 := fun i hi => by
        by_cases z : Y.σ.e n i = 0
        · omega
        · have := (B.ts.ok.i.rng _ (.inl (B.ts.ok.i.int n i hG (by omega) hi z).1)).2
          omega
      have HI : Hid (∀ i, i < 16 → Y.σ.e n i ≠ 0 → G (Y.σ.e n i) ∧ lv (Y.σ.e n i) = l ∧ Y.σ.e n i < 200) := Lib.hid fun i hi z => by
        obtain ⟨k1, k2, _⟩ := B.ts.ok.i.int n i hG (by omega) hi z
        exact ⟨k1, by omega, (B.ts.ok.i.rng _ (.inl k1)).2⟩
      have HIX : Hid (∀ (k : Nat) (W : World), k < 120 → (Instr.index 9 (.string (ntext (Y.σ.e n))) (.int .i64 (k : Int))).run Try.prog W = .ok (.int .u8 (((if k < 16 then Y.σ.e n k else 0) : Nat) : Int)) W) := Lib.hid fun k W hk => by
        rw [str_idx17 _ k (by rw [ntext_size]; exact hk) W, ntext_at he]
      have hsz := ntext_size (Y.σ.e n)
      obtain ⟨j0, hj0, hj1⟩ := B.ts.ok.i.some_ n hG (by omega)
      obtain ⟨P, hs0, pS, pL, pd⟩ : ∃ P : Nat → Nat → Nat, SeenAt W1 sb (P 0) ∧ Hid (∀ k, P (k + 1) = if Y.σ.e n k = 0 then P k else Tri.dfs Y.σ.e l (Y.σ.e n k) (P k)) ∧ Hid (∀ k x, k ≤ 16 → P k x ≤ S x + 1 + k * mB l) ∧ Tri.dfs Y.σ.e (l + 1) n S = P 16 :=
        ⟨fun k => Tri.loopL (Tri.dfs Y.σ.e l) (Y.σ.e n) k 0 (fun x => S x + Tri.one n x), hs1, Lib.hid fun k => by dsimp only; rw [loopL_snoc, Nat.zero_add], Lib.hid fun k x hk => by
          have h1 := loopL_le (dfs_le Y.σ.e l) (Y.σ.e n) (fun x => S x + Tri.one n x) x k
          have h2 := one_le1 n x
          have h1 : Tri.loopL (Tri.dfs Y.σ.e l) (Y.σ.e n) k 0 (fun x => S x + Tri.one n x) x ≤ (S x + Tri.one n x) + k * mB l := h1
          exact Nat.le_trans h1 (by omega), by rw [Tri.dfs_succ, if_neg hz]; rfl⟩
      have IH := Lib.hid (walk_any B hsb l (d + 1) (by omega))
      have HS := Lib.hid hS
      have H1 := Lib.hid HT1
      have Hb1 := Lib.hid hb1
      have Hs0 := Lib.hid hs0
      rw [pd]
      clear hs hs1 HT1 hb1 hs0 b1 he hS pd
      have y8 : (n : Int) < 200 := by omega
      rw [hm1] at hsn
      go_enter Try.func12, Try.ntmps12
      go_upto_region 2 with (fail)
      rw [← hW1]
      clear hW1
      go_wp2_with (fail)
      refine crd.mono ?_
      rintro x w5 ⟨rfl, q5⟩
      have H5 := Lib.hid (H1.out.trans (HTo.quiet (g := sb) (m := sb) q5))
      have Hs5 : Hid (SeenAt w5 sb (P 0)) := Lib.hid ((q5.block sb (Array.getElem?_eq_some_iff.1 Hs0.out).1).trans Hs0.out)
      have Hb5 := Lib.hid (Hb1.out.trans (q5.mono Hb1.out.size))
      clear q5 crd d1 H1 Hs0 Hb1 sc1
      go_wp2_with (fail)
      go_loopw [11, 12] (fun sm t wz => ∃ (i : Nat) (b : Bool), i ≤ 120 ∧ t = .int .i64 (i : Int) ∧ sm = .bool b ∧ (j0 < i → b = true) ∧ HTo W sb sb wz ∧ SeenAt wz sb (P (min i 16))) (fun _ t _ => 120 - (intOf t).toNat)
      case atStart => exact ⟨0, false, by omega, rfl, rfl, fun z => by omega, H5.out, Hs5.out⟩
      case round =>
        clear H5 Hs5
        obtain ⟨i, b, hi, rfl, rfl, hb0, hTz, hsz2⟩ := hrel
        rename World => wz
        by_cases hlt : i < 120
        · have z1 : (i : Int) < 120 := by omega
          have hix := fun W => HIX.out i W hlt
          by_cases hnz : i < 16 ∧ Y.σ.e n i ≠ 0
          · obtain ⟨hi16, hne⟩ := hnz
            obtain ⟨k1, k2, k3⟩ := HI.out i hi16 hne
            simp only [if_pos hi16] at hix
            have hne2 : (((Y.σ.e n i : Nat) : Int) != 0) = true := by rw [bne_iff_ne]; omega
            have c1 : ¬ ((15 : Int) < (i : Int)) := by omega
            have c2 : ¬ ((200 : Int) ≤ ((Y.σ.e n i : Nat) : Int)) := by omega
            have hw8 : IntKind.u8.wrap ((Y.σ.e n i : Nat) : Int) = ((Y.σ.e n i : Nat) : Int) := IntWalk.u8_in _ (by omega)
            have hbz := hW.trans (hTz.below hsb hsb hW.size)
            rw [show min i 16 = i by omega] at hsz2
            have hbd : ∀ x, P i x + mB l ≤ 1000000 := fun x => by
              have h1 := pL.out i x (by omega)
              have h2 := HS.out x
              have h3 : i * mB l ≤ 15 * mB l := Nat.mul_le_mul_right _ (by omega)
              rw [hm1] at h2
              omega
            have cw := IH.out (Y.σ.e n i) (P i) wz k1 k2 hbd hbz hsz2
            rw [show ((d + 1 : Nat) : Int) = (d : Int) + 1 by simp] at cw
            have hps := pS.out i
            rw [if_neg hne] at hps
            rw [← hps] at cw
            have HTz := Lib.hid hTz
            generalize Y.σ.e n i = kid at *
            clear hsz2 hTz hbz hbd
            go_wp2_with (fail)
            refine cw.mono ?_
            rintro x wy ⟨rfl, Ty, hsy⟩
            have HTy := Lib.hid (HTz.out.trans Ty)
            have HSy := Lib.hid hsy
            clear Ty hsy cw
            go_wp2_with (fail)
            go_roundw
            case rel => exact ⟨i + 1, true, by omega, by go_num, rfl, fun _ => rfl, HTy.out, by rw [show min (i + 1) 16 = i + 1 by omega]; exact HSy.out⟩
            case measure => simp [intOf]; omega
          · have hv : (if i < 16 then Y.σ.e n i else 0) = 0 := by
              by_cases z : i < 16
              · rw [if_pos z]; exact Classical.byContradiction fun y => hnz ⟨z, y⟩
              · rw [if_neg z]
            rw [hv] at hix
            have hsy : Hid (SeenAt wz sb (P (min (i + 1) 16))) := Lib.hid (by
              by_cases z : i < 16
              · rw [show min (i + 1) 16 = i + 1 by omega, pS.out i, if_pos (by rw [if_pos z] at hv; exact hv)]
                rw [show min i 16 = i by omega] at hsz2; exact hsz2
              · rw [show min (i + 1) 16 = min i 16 by omega]; exact hsz2)
            have hb1 : j0 < i + 1 → b = true := fun z => by
              by_cases e : j0 = i
              · exact absurd ⟨by omega, by rw [← e]; exact hj1⟩ hnz
              · exact hb0 (by omega)
            have HTz := Lib.hid hTz
            clear hsz2 hTz hv hnz
            go_wp2_with (fail)
            go_roundw
            case rel => exact ⟨i + 1, b, by omega, by go_num, rfl, hb1, HTz.out, hsy.out⟩
            case measure => simp [intOf]; omega
        · obtain rfl : i = 120 := by omega
          obtain rfl : b = true := hb0 (by omega)
          have hfin : Hid (WalkG W sb (P 16) (.returned (.bool true)) wz) := Lib.hid ⟨rfl, hTz, hsz2⟩
          clear hTz hsz2
          go_wp2_with (fail)
          go_ret
          exact hfin.out
end

section
variable {n : Nat} {Y : Tri.TW ByteArray} {R : Nat → Nat} {G : Nat → Prop} {lv pos : Nat → Nat}
theorem refs_none (σ : Tri.St) (lv : Nat → Nat) (x : Nat) : Tri.refs σ (fun _ => False) lv x = 0 := by
  have := Tri.sumTo_bound (f := fun p => if False ∧ 0 < lv p then Tri.mul (σ.e p) x else 0) (m := 0) 200 (fun p _ => by rw [if_neg (fun z => z.1)]; exact Nat.le_refl _)
  have e : Tri.refs σ (fun _ => False) lv x = Tri.sumTo (fun p => if False ∧ 0 < lv p then Tri.mul (σ.e p) x else 0) 200 := by
    unfold Tri.refs
    refine Tri.sumTo_congr 200 fun p _ => ?_
    rw [if_neg (fun z => z.1), if_neg (fun z => z.1)]
  omega
def rootsTo (R : Nat → Nat) (q : Nat) : Nat → Nat := fun x => Tri.sumTo (fun i => Tri.oneZ (R i) x) q
theorem rootsTo_succ (R : Nat → Nat) (q x : Nat) : rootsTo R (q + 1) x = rootsTo R q x + Tri.oneZ (R q) x := by
  rfl
theorem seen_start (σ : Tri.St) : Tri.Seen σ G lv 3 (fun _ => 0) (rootsTo R 0) (fun _ => False) :=
  ⟨fun x _ => by rw [refs_none]; rfl, fun _ z => z.elim, fun _ _ _ _ z => absurd z (Nat.lt_irrefl 0)⟩
/-- What was seen from all roots is what is counted. -/
theorem seen_all (ts : TS n Y R G lv pos) {S : Nat → Nat} {D : Nat → Prop} (hs : Tri.Seen Y.σ G lv 3 S (rootsTo R 4) D) (x : Nat) (hx : 3 ≤ x) : S x = Y.σ.c x := by
  have hroot : ∀ r, 0 < rootsX R r → lv r = 3 ∧ pos r = 0 := fun r hr => by
    obtain ⟨i, hi, h2, h3⟩ := rootsX_some hr
    have := ts.rt i hi (by rw [h2]; exact h3)
    rw [h2] at this; exact this
  have hL := inv_top ts.ok.i (fun r hr => (hroot r hr).1)
  by_cases hG : G x
  · exact Tri.dfs_all ts.ok.i hroot hL hs x hG
  · have hc : Y.σ.c x = 0 := by
      apply Classical.byContradiction
      intro z
      exact ((ts.ok.i.all x).1 (Nat.pos_of_ne_zero z)).elim hG (fun z : noH x => False.elim z)
    rw [hc, hs.s x (by omega)]
    have h1 : rootsTo R 4 x = 0 := by
      apply Classical.byContradiction
      intro z
      exact hG (ts.ok.i.ex x (Nat.pos_of_ne_zero z))
    rw [h1, Nat.zero_add]
    apply Classical.byContradiction
    intro z
    obtain ⟨p, hp, hm⟩ := Tri.sumTo_pos 200 (show 0 < Tri.refs Y.σ D lv x from Nat.pos_of_ne_zero z)
    by_cases hg : D p ∧ 0 < lv p
    · rw [if_pos hg] at hm
      obtain ⟨i, hi, e2⟩ := Tri.mul_pos hm
      have := (ts.ok.i.int p i (hs.g p hg.1).1 hg.2 hi (by rw [e2]; omega)).1
      rw [e2] at this
      exact hG this
    · rw [if_neg hg] at hm; omega
/-- Without a tree nothing is used. -/
theorem none_left (ts : TS n Y R G lv pos) (h0 : ∀ i, i < 4 → R i = 0) : cOf Y.σ.c = cnt0 := by
  have hno : ∀ r, ¬ 0 < rootsX R r := fun r hr => by
    obtain ⟨i, hi, h2, h3⟩ := rootsX_some hr
    exact h3 (by rw [← h2]; exact h0 i hi)
  have hL := inv_top (L := 3) ts.ok.i (fun r hr => absurd hr (hno r))
  funext x
  unfold cOf cnt0
  by_cases h3 : x < 3
  · rw [if_pos h3, if_pos h3]
  · rw [if_neg h3, if_neg h3]
    apply Classical.byContradiction
    intro z
    have hG : G x := ((ts.ok.i.all x).1 (Nat.pos_of_ne_zero z)).elim id (fun z : noH x => False.elim z)
    obtain ⟨r, hr, _⟩ := ts.ok.i.reach (L := 3) (fun r hr => absurd hr (hno r)) hL (3 - lv x) x hG (by have := hL x hG; omega)
    exact hno r hr
end
set_option maxRecDepth 100000 in
set_option maxHeartbeats 8000000 in
theorem tcounts_walk (v0 : Value) (l0 : List OpR) (W : World) (R0 : ReadsE opE W v0 l0) (F0 : ∀ p ∈ l0, OpOk p) :
    Calls Try.prog 4 #[v0] W fun e w' => e = .returned (.bool true) ∧ Below W.heap.size W w' := by
  have ca := awake_any W
  have HR0 := Lib.hid R0
  have HF0 := Lib.hid F0
  have hmk : ∀ W : World, (Instr.makeSlice 28 (.int .i64 200) (.int .i64 200)).run Try.prog W = .ok (.slice (some ⟨W.heap.size, 0, none⟩) 200 200) (W.alloc (.cells (rowV 200 fun _ => .int .i64 0).toArray 3)) := fun W => by kernel_rfl
  clear R0 F0
  go_enter Try.func4, Try.ntmps4
  go_wp2_with (fail)
  refine ca.mono ?_
  rintro e w1 ⟨rfl, b1⟩
  have cb := begins_any w1
  have s1 := b1.size
  go_wp2_with (fail)
  refine cb.mono ?_
  rintro e w2 ⟨bk, rb, kb, tb, h, g, m, u, Y0, Z0, R0, G0, lv0, pos0, kv0, tv0, rfl, B2, b2, hd, _, _⟩
  have hd0 : W.heap.size ≤ rb ∧ W.heap.size ≤ kb ∧ W.heap.size ≤ tb ∧ W.heap.size ≤ g ∧ W.heap.size ≤ m := by omega
  have b12 : Below W.heap.size W w2 := b1.trans (b2.mono s1)
  have s2 := b12.size
  have cp := plays_come B2 HR0.out HF0.out b12 hd0
  have H2 := Lib.hid b12
  clear b12 ca cb b1 b2
  go_wp2_with (fail)
  refine cp.mono ?_
  rintro e w ⟨rfl, T3, Y, Z, R, G, lv, pos, kv, tv, B3⟩
  have H3 := Lib.hid (H2.out.trans (T3.below s2 hd0))
  have hsz3 := H3.out.size
  have HB := Lib.hid B3
  obtain ⟨sb, hsb⟩ : ∃ sb, w.heap.size = sb := ⟨_, rfl⟩
  have hmk2 := hmk w
  rw [hsb] at hmk2
  obtain ⟨w4, hw4⟩ : ∃ w4, w4 = w.alloc (.cells (rowV 200 fun _ => .int .i64 0).toArray 3) := ⟨_, rfl⟩
  rw [← hw4] at hmk2
  have hseen : SeenAt w4 sb (fun _ => 0) := by rw [hw4, ← hsb]; exact heap_alloc_new _ _
  have b4 : Below w.heap.size w w4 := by rw [hw4]; exact (Below.refl _ _).alloc (Nat.le_refl _) _
  have HS4 := Lib.hid hseen
  have Hb4 := Lib.hid b4
  replace hsb := Lib.hid hsb
  clear B2 B3 T3 cp hmk hw4 hseen b4
  generalize (rowV 200 fun _ => Value.int .i64 0) = zeros at *
  go_wp2_with (fail)
  clear hmk2
  go_loopw [6] (fun t wr => ∃ (q : Nat) (S : Nat → Nat) (D : Nat → Prop), q ≤ 4 ∧ t = .int .i64 (q : Int) ∧ Below w.heap.size w wr ∧ SeenAt wr sb S ∧ Tri.Seen Y.σ G lv 3 S (rootsTo R q) D ∧ ∀ x, S x ≤ q * mB 3) (fun t _ => 4 - (intOf t).toNat)
  case atStart => exact ⟨0, _, _, by omega, rfl, Hb4.out, HS4.out, seen_start _, fun x => by simp⟩
  case round =>
    clear HS4 Hb4
    obtain ⟨q, S, D, hq, rfl, hb, hS, hse, hSb⟩ := hrel
    rename World => wr
    by_cases hlt : q < 4
    · have y1 : (q : Int) < 4 := by omega
      have b2 := HB.out.below hb
      have c2 := b2.bw.c2
      have cr := b2.bw.cr hlt
      by_cases h0 : R q = 0
      · have tz : (((R q : Nat) : Int) != 0) = false := by rw [h0]; rfl
        have hfin : Hid (Below w.heap.size w wr ∧ SeenAt wr sb S ∧ Tri.Seen Y.σ G lv 3 S (rootsTo R (q + 1)) D ∧ ∀ x, S x ≤ (q + 1) * mB 3) := Lib.hid ⟨hb, hS, by
          rw [show rootsTo R (q + 1) = rootsTo R q from by funext x; rw [rootsTo_succ, h0, Tri.oneZ_zero]; rfl]; exact hse, fun x => by have := hSb x; rw [Nat.succ_mul]; omega⟩
        clear hb hS hse hSb b2 h0
        go_wp2_with (fail)
        go_roundw
        case rel => exact ⟨q + 1, S, D, by omega, by go_num, hfin.out⟩
        case measure => simp [intOf]; omega
      · have tz : (((R q : Nat) : Int) != 0) = true := by rw [bne_iff_ne]; omega
        obtain ⟨r1, r2, r3⟩ := HB.out.ts.root hlt h0
        have hm3 : mB 3 = 4369 := rfl
        have cw := walk_any HB.out (sb := sb) (Nat.le_of_eq hsb.out) 3 0 rfl (R q) S wr r1 r2 (fun x => by have := hSb x; rw [hm3] at this ⊢; omega) hb hS
        obtain ⟨D', v'⟩ := Tri.dfs_spec HB.out.ts.ok.i 3 (R q) S (rootsTo R q) D r1 r2 hse
        have hfin : Hid (Tri.Seen Y.σ G lv 3 (Tri.dfs Y.σ.e 3 (R q) S) (rootsTo R (q + 1)) D' ∧ ∀ x, Tri.dfs Y.σ.e 3 (R q) S x ≤ (q + 1) * mB 3) := Lib.hid ⟨by
          rw [show rootsTo R (q + 1) = fun x => rootsTo R q x + Tri.one (R q) x from by funext x; rw [rootsTo_succ, Tri.oneZ_pos h0]]; exact v'.seen, fun x => by
          have := dfs_le Y.σ.e 3 (R q) S x
          have := hSb x
          rw [Nat.succ_mul]; omega⟩
        have Hb := Lib.hid hb
        generalize Tri.dfs Y.σ.e 3 (R q) S = S' at *
        rw [show (((0 : Nat) : Int)) = 0 from rfl] at cw
        clear hb hS hse hSb b2 h0 v' r1 r2 r3 hm3
        go_wp2_with (fail)
        refine cw.mono ?_
        rintro e wy ⟨rfl, Ty, hsy⟩
        have hby : Hid (Below w.heap.size w wy) := Lib.hid (Hb.out.trans (Ty.below (Nat.le_of_eq hsb.out) (Nat.le_of_eq hsb.out) Hb.out.size))
        have Hsy := Lib.hid hsy
        clear cw Ty hsy
        go_wp2_with (fail)
        go_roundw
        case rel => exact ⟨q + 1, S', D', by omega, by go_num, hby.out, Hsy.out, hfin.out⟩
        case measure => simp [intOf]; omega
    · obtain rfl : q = 4 := by omega
      have hall : Hid (∀ i, 3 ≤ i → S i = Y.σ.c i) := Lib.hid fun i hi => seen_all HB.out.ts hse i hi
      have Hb := Lib.hid hb
      have HS := Lib.hid hS
      clear hb hS hse hSb
      simp only [show ((4 : Nat) : Int) = 4 from rfl]
      go_wp2_with (fail)
      go_loopw [2, 7] (fun _ t wz => ∃ i : Nat, 3 ≤ i ∧ i ≤ 200 ∧ t = .int .i64 (i : Int) ∧ Below wr.heap.size wr wz) (fun _ t _ => 200 - (intOf t).toNat)
      case atStart => exact ⟨3, by omega, by omega, rfl, Below.refl _ _⟩
      case round =>
        obtain ⟨i, hi3, hi, rfl, hbz⟩ := hrel
        rename World => wz
        by_cases hlt : i < 200
        · have y1 : (i : Int) < 200 := by omega
          have D0 : Below wz.heap.size wz wz.drew := ⟨rfl, rfl, rfl, Nat.le_refl _, fun _ _ => rfl⟩
          have hbd := hbz.trans (D0.mono hbz.size)
          have hwd := Hb.out.trans (hbd.mono Hb.out.size)
          have b2 := HB.out.below hwd
          have cc := count_any g 200 (cOf Y.σ.c) (i : Int) wz.drew b2.hp.t b2.hp.small
          have ec : cntV 200 (cOf Y.σ.c) (i : Int) = S i := by
            unfold cntV
            rw [if_pos ⟨by omega, by omega⟩, Int.toNat_natCast, cOf_hi hi3, hall.out i hi3]
          rw [ec] at cc
          have HS0 : Hid (wz.drew.cell? ⟨bk, 0, none⟩ = some (.pointer (some ⟨g, 0, none⟩)) ∧ wz.drew.cell? ⟨sb, i, none⟩ = some (.int .i64 (S i : Int))) := Lib.hid ⟨b2.bw.c0, by
            have h1 : SeenAt wz.drew sb S := (hbd.block sb (Array.getElem?_eq_some_iff.1 HS.out).1).trans HS.out
            exact rowV_cell h1 hlt⟩
          have ts : (((S i : Nat) : Int) != ((S i : Nat) : Int)) = false := by simp
          have Hbd := Lib.hid hbd
          clear b2 ec hwd hbd D0 hbz
          generalize S i = si at *
          go_upto_region 14 with (fail)
          refine wp_region_held_drew (S := fun W => W.cell? ⟨bk, 0, none⟩ = some (.pointer (some ⟨g, 0, none⟩)) ∧ W.cell? ⟨sb, i, none⟩ = some (.int .i64 (si : Int))) (by kernel_rfl) HS0.out (fun hHeld => ?_)
          refine wpAnyH_takeD (i := 0) (some 53) rfl (by kernel_rfl) (by kernel_rfl) (by kernel_rfl) rfl (fun _ _ _ h => h) (Or.inl ⟨by rfl, by rintro w ⟨hs1, hs2⟩; go_simp; try rfl⟩) (by assumption) ?_
          simp only [Act.put, List.setIfInBounds_toArray, List.set_cons_zero, List.set_cons_succ]
          refine wpAnyH_takeD (i := 1) (some 54) rfl (by kernel_rfl) (by kernel_rfl) (by kernel_rfl) rfl (fun _ _ _ h => h) (Or.inl ⟨by rfl, by rintro w ⟨hs1, hs2⟩; go_simp; try rfl⟩) (by assumption) ?_
          simp only [Act.put, List.setIfInBounds_toArray, List.set_cons_zero, List.set_cons_succ]
          refine wpAnyH_takeD (i := 2) (some 55) rfl (by kernel_rfl) (by kernel_rfl) (by kernel_rfl) rfl (fun _ _ _ h => h) (Or.inl ⟨by rfl, by rintro w ⟨hs1, hs2⟩; go_simp; try rfl⟩) (by assumption) ?_
          simp only [Act.put, List.setIfInBounds_toArray, List.set_cons_zero, List.set_cons_succ]
          refine wpAnyH_takeD (i := 3) (some 56) rfl (by kernel_rfl) (by kernel_rfl) (by kernel_rfl) rfl (fun _ _ _ h => h) (Or.inl ⟨by rfl, by rintro w ⟨hs1, hs2⟩; go_simp; try rfl⟩) (by assumption) ?_
          simp only [Act.put, List.setIfInBounds_toArray, List.set_cons_zero, List.set_cons_succ]
          refine wpAnyH_takeD (i := 4) (some 57) rfl (by kernel_rfl) (by kernel_rfl) (by kernel_rfl) rfl (fun _ _ _ h => h) (Or.inl ⟨by rfl, by rintro w ⟨hs1, hs2⟩; go_simp; try rfl⟩) (by assumption) ?_
          simp only [Act.put, List.setIfInBounds_toArray, List.set_cons_zero, List.set_cons_succ]
          refine wpAnyH_takeD (i := 6) (some 59) rfl (by kernel_rfl) (by kernel_rfl) (by kernel_rfl) rfl (fun _ _ _ h => h) (Or.inl ⟨by rfl, by rintro w ⟨hs1, hs2⟩; go_simp; try rfl⟩) (by assumption) ?_
          simp only [Act.put, List.setIfInBounds_toArray, List.set_cons_zero, List.set_cons_succ]
          refine wpAnyH_takeD (i := 7) (some 60) rfl (by kernel_rfl) (by kernel_rfl) (by kernel_rfl) rfl (fun _ _ _ h => h) (Or.inl ⟨by rfl, by rintro w ⟨hs1, hs2⟩; go_simp; try rfl⟩) (by assumption) ?_
          simp only [Act.put, List.setIfInBounds_toArray, List.set_cons_zero, List.set_cons_succ]
          refine wpAnyH_takeD (i := 8) (some 61) rfl (by kernel_rfl) (by kernel_rfl) (by kernel_rfl) rfl (fun _ _ _ h => h) (Or.inl ⟨by rfl, by rintro w ⟨hs1, hs2⟩; go_simp; try rfl⟩) (by assumption) ?_
          simp only [Act.put, List.setIfInBounds_toArray, List.set_cons_zero, List.set_cons_succ]
          refine wpAnyH_takeD (i := 9) (some 62) rfl (by kernel_rfl) (by kernel_rfl) (by kernel_rfl) rfl (fun _ _ _ h => h) (Or.inl ⟨by rfl, by rintro w ⟨hs1, hs2⟩; go_simp; try rfl⟩) (by assumption) ?_
          simp only [Act.put, List.setIfInBounds_toArray, List.set_cons_zero, List.set_cons_succ]
          refine wpAnyH_ready (rs := [5]) (by kernel_rfl) (by simp) ?_
          refine AllReadyH.cons rfl (fun K hK => ?_) AllReadyH.nil
          go_simp
          refine cc.mono ?_
          rintro x w' ⟨rfl, rfl⟩
          refine hK.out _ _ HS0.out (fun hHeld => ?_)
          clear hK
          try simp only [Act.put, List.setIfInBounds_toArray, List.set_cons_zero, List.set_cons_succ]
          refine wpAnyH_takeD (i := 10) (v := Value.bool false) (some 63) rfl (by kernel_rfl) (by kernel_rfl) (by kernel_rfl) rfl (fun _ _ _ h => h) (Or.inl ⟨by rfl, by rintro w ⟨hs1, hs2⟩; go_simp; try rfl⟩) (by assumption) ?_
          simp only [Act.put, List.setIfInBounds_toArray, List.set_cons_zero, List.set_cons_succ]
          refine wpAnyH_done (by kernel_rfl) ?_ _
          go_wp2_with (fail)
          go_roundw
          case rel => exact ⟨i + 1, by omega, by omega, by go_num, Hbd.out⟩
          case measure => simp [intOf]; omega
        · obtain rfl : i = 200 := by omega
          have hwz := Hb.out.trans (hbz.mono Hb.out.size)
          have b2 := HB.out.below hwz
          have Hw := Lib.hid hwz
          have Hbw := Lib.hid b2.bw
          have Hhp := Lib.hid b2.hp
          have hA := Lib.hid b2.A
          clear hbz hwz b2 hall HS Hb
          simp only [show ((200 : Nat) : Int) = 200 from rfl]
          go_wp2_with (fail)
          go_loopw [2, 8] (fun _ t wd => ∃ (j : Nat) (Y1 : Tri.TW ByteArray) (R1 : Nat → Nat) (G1 : Nat → Prop), j ≤ 4 ∧ t = .int .i64 (j : Int) ∧ Hp wd h g m 200 u (cOf Y1.σ.c) Z Y1.T ∧ TS 200 Y1 R1 G1 lv pos ∧ (∀ i, i < j → R1 i = 0) ∧ (∀ i, j ≤ i → R1 i = R i) ∧ HTo wz g m wd) (fun _ t _ => 4 - (intOf t).toNat)
          case atStart => exact ⟨0, Y, R, G, by omega, rfl, Hhp.out, HB.out.ts, fun i hi => absurd hi (Nat.not_lt_zero _), fun _ _ => rfl, HTo.refl _ _ _⟩
          case round =>
            clear Hhp
            obtain ⟨j, Y1, R1, G1, hj, rfl, hp, ts1, hz1, hr1, hT⟩ := hrel
            rename World => wd
            by_cases hjl : j < 4
            · have y2 : (j : Int) < 4 := by omega
              obtain ⟨Y2, G2, ts2, hsb2, hT2, he2, hdrop⟩ := ts_drop h g m u Z ts1 hjl
              rw [hr1 j (Nat.le_refl _)] at hdrop
              have D1 : Below wd.heap.size wd wd.drew := ⟨rfl, rfl, rfl, Nat.le_refl _, fun _ _ => rfl⟩
              have cd := hdrop wd.drew (hp.below D1)
              have HTd := Lib.hid (hT.trans (HTo.quiet (g := g) (m := m) D1))
              have HX : Hid (TS 200 Y2 (updF R1 j 0) G2 lv pos ∧ (∀ i, i < j + 1 → updF R1 j 0 i = 0) ∧ (∀ i, j + 1 ≤ i → updF R1 j 0 i = R i)) := Lib.hid ⟨ts2, fun i hi => by
                by_cases e : i = j
                · subst e; exact updF_same _ _ _
                · rw [updF_other e]; exact hz1 i (by omega), fun i hi => by rw [updF_other (by omega)]; exact hr1 i (by omega)⟩
              have HS : Hid (∀ W, HTo wd.drew g m W → W.cell? ⟨bk, 1, none⟩ = some (.pointer (some ⟨h, 0, none⟩)) ∧ W.cell? ⟨bk, 2, none⟩ = some (.slice (some ⟨rb, 0, none⟩) 4 4) ∧ W.cell? ⟨rb, j, none⟩ = some (.int .i64 (R j : Int))) := Lib.hid fun W hW => by
                have H2 := Hbw.out.to hA.out (HTd.out.trans hW)
                exact ⟨H2.c1, H2.c2, H2.cr hjl⟩
              clear hdrop ts1 ts2 hsb2 hT2 he2 hp hT hz1 hr1 D1
              go_upto_region 19 with (fail)
              refine wp_region_held_drew (S := fun W => W.cell? ⟨bk, 1, none⟩ = some (.pointer (some ⟨h, 0, none⟩)) ∧ W.cell? ⟨bk, 2, none⟩ = some (.slice (some ⟨rb, 0, none⟩) 4 4) ∧ W.cell? ⟨rb, j, none⟩ = some (.int .i64 (R j : Int))) (by kernel_rfl) (HS.out _ (HTo.refl _ _ _)) (fun hHeld => ?_)
              refine wpAnyH_takeD (i := 0) (some 68) rfl (by kernel_rfl) (by kernel_rfl) (by kernel_rfl) rfl (fun _ _ _ h => h) (Or.inl ⟨by rfl, by rintro w ⟨hs1, hs2, hs3⟩; go_simp; try rfl⟩) (by assumption) ?_
              simp only [Act.put, List.setIfInBounds_toArray, List.set_cons_zero, List.set_cons_succ]
              refine wpAnyH_takeD (i := 1) (some 69) rfl (by kernel_rfl) (by kernel_rfl) (by kernel_rfl) rfl (fun _ _ _ h => h) (Or.inl ⟨by rfl, by rintro w ⟨hs1, hs2, hs3⟩; go_simp; try rfl⟩) (by assumption) ?_
              simp only [Act.put, List.setIfInBounds_toArray, List.set_cons_zero, List.set_cons_succ]
              refine wpAnyH_takeD (i := 2) (some 70) rfl (by kernel_rfl) (by kernel_rfl) (by kernel_rfl) rfl (fun _ _ _ h => h) (Or.inl ⟨by rfl, by rintro w ⟨hs1, hs2, hs3⟩; go_simp; try rfl⟩) (by assumption) ?_
              simp only [Act.put, List.setIfInBounds_toArray, List.set_cons_zero, List.set_cons_succ]
              refine wpAnyH_takeD (i := 3) (some 71) rfl (by kernel_rfl) (by kernel_rfl) (by kernel_rfl) rfl (fun _ _ _ h => h) (Or.inl ⟨by rfl, by rintro w ⟨hs1, hs2, hs3⟩; go_simp; try rfl⟩) (by assumption) ?_
              simp only [Act.put, List.setIfInBounds_toArray, List.set_cons_zero, List.set_cons_succ]
              refine wpAnyH_takeD (i := 4) (some 72) rfl (by kernel_rfl) (by kernel_rfl) (by kernel_rfl) rfl (fun _ _ _ h => h) (Or.inl ⟨by rfl, by rintro w ⟨hs1, hs2, hs3⟩; go_simp; try rfl⟩) (by assumption) ?_
              simp only [Act.put, List.setIfInBounds_toArray, List.set_cons_zero, List.set_cons_succ]
              refine wpAnyH_takeD (i := 5) (some 73) rfl (by kernel_rfl) (by kernel_rfl) (by kernel_rfl) rfl (fun _ _ _ h => h) (Or.inl ⟨by rfl, by rintro w ⟨hs1, hs2, hs3⟩; go_simp; try rfl⟩) (by assumption) ?_
              simp only [Act.put, List.setIfInBounds_toArray, List.set_cons_zero, List.set_cons_succ]
              refine wpAnyH_takeD (i := 6) (some 74) rfl (by kernel_rfl) (by kernel_rfl) (by kernel_rfl) rfl (fun _ _ _ h => h) (Or.inl ⟨by rfl, by rintro w ⟨hs1, hs2, hs3⟩; go_simp; try rfl⟩) (by assumption) ?_
              simp only [Act.put, List.setIfInBounds_toArray, List.set_cons_zero, List.set_cons_succ]
              refine wpAnyH_takeD (i := 7) (some 75) rfl (by kernel_rfl) (by kernel_rfl) (by kernel_rfl) rfl (fun _ _ _ h => h) (Or.inl ⟨by rfl, by rintro w ⟨hs1, hs2, hs3⟩; go_simp; try rfl⟩) (by assumption) ?_
              simp only [Act.put, List.setIfInBounds_toArray, List.set_cons_zero, List.set_cons_succ]
              refine wpAnyH_takeD (i := 8) (some 76) rfl (by kernel_rfl) (by kernel_rfl) (by kernel_rfl) rfl (fun _ _ _ h => h) (Or.inl ⟨by rfl, by rintro w ⟨hs1, hs2, hs3⟩; go_simp; try rfl⟩) (by assumption) ?_
              simp only [Act.put, List.setIfInBounds_toArray, List.set_cons_zero, List.set_cons_succ]
              refine wpAnyH_takeD (i := 9) (some 77) rfl (by kernel_rfl) (by kernel_rfl) (by kernel_rfl) rfl (fun _ _ _ h => h) (Or.inl ⟨by rfl, by rintro w ⟨hs1, hs2, hs3⟩; go_simp; try rfl⟩) (by assumption) ?_
              simp only [Act.put, List.setIfInBounds_toArray, List.set_cons_zero, List.set_cons_succ]
              refine wpAnyH_takeD (i := 10) (some 78) rfl (by kernel_rfl) (by kernel_rfl) (by kernel_rfl) rfl (fun _ _ _ h => h) (Or.inl ⟨by rfl, by rintro w ⟨hs1, hs2, hs3⟩; go_simp; try rfl⟩) (by assumption) ?_
              simp only [Act.put, List.setIfInBounds_toArray, List.set_cons_zero, List.set_cons_succ]
              refine wpAnyH_ready (rs := [11]) (by kernel_rfl) (by simp) ?_
              refine AllReadyH.cons rfl (fun K hK => ?_) AllReadyH.nil
              go_simp
              refine cd.mono ?_
              rintro x wy ⟨rfl, Ty, hpy⟩
              refine hK.out _ _ (HS.out _ Ty) (fun hHeld => ?_)
              clear hK
              try simp only [Act.put, List.setIfInBounds_toArray, List.set_cons_zero, List.set_cons_succ]
              refine wpAnyH_takeD (i := 12) (v := Value.bool false) (some 80) rfl (by kernel_rfl) (by kernel_rfl) (by kernel_rfl) rfl (fun _ _ _ h => h) (Or.inl ⟨by rfl, by rintro w ⟨hs1, hs2, hs3⟩; go_simp; try rfl⟩) (by assumption) ?_
              simp only [Act.put, List.setIfInBounds_toArray, List.set_cons_zero, List.set_cons_succ]
              refine wpAnyH_done (by kernel_rfl) ?_ _
              have HE := Lib.hid (HTd.out.trans Ty)
              have Hpe := Lib.hid hpy
              clear Ty hpy cd HTd
              go_wp2_with (fail)
              go_roundw
              case rel => exact ⟨j + 1, Y2, updF R1 j 0, G2, by omega, by go_num, Hpe.out, HX.out.1, HX.out.2.1, HX.out.2.2, HE.out⟩
              case measure => simp [intOf]; omega
            · obtain rfl : j = 4 := by omega
              have hc0 := none_left ts1 hz1
              rw [hc0] at hp
              have bw := Hbw.out.to hA.out hT
              have d0 := bw.c0
              have cf := free_any g 200 cnt0 wd hp.t hp.small
              rw [show usedTo cnt0 240 = 3 by kernel_rfl] at cf
              have Hpd := Lib.hid hp
              have Hbwd := Lib.hid bw
              have HTd := Lib.hid hT
              clear hp bw ts1 hz1 hr1 hT hc0
              go_wp2_with (fail)
              refine cf.mono ?_
              rintro e we ⟨rfl, kk, hwe⟩
              have qe : Below wd.heap.size wd we := by rw [hwe]; exact below_drewN _ _
              have bwe := Hbwd.out.below qe
              have d1 := bwe.c1
              have cc := changed_none (Hpd.out.below qe) (fun i hi => by unfold cnt0; rw [if_neg (by omega)])
              have HTe := Lib.hid (HTd.out.trans (HTo.quiet (g := g) (m := m) qe))
              clear qe bwe hwe cf
              go_wp2_with (fail)
              refine cc.mono ?_
              rintro e wf ⟨rfl, qf⟩
              have hfin : Hid (Below W.heap.size W wf) := Lib.hid (by
                have h1 := H3.out.trans (Hw.out.mono hsz3)
                exact h1.trans ((HTe.out.trans (HTo.quiet (g := g) (m := m) qf)).below (by omega) (by omega) h1.size))
              clear qf cc
              go_wp2_with (fail)
              go_ret
              exact ⟨rfl, hfin.out⟩
end Go.Proofs.Ytlbjfigdocbffaa
