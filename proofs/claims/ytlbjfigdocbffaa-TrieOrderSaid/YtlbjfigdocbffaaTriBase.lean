/- trie: a heap of blocks in memory. -/
import Derived.Test.YtlbjfigdocbffaaTriStep
import Derived.Test.YtlbjfigdocbffaaCntWalk1
import Derived.Test.YtlbjfigdocbffaaSl4
import Derived.Test.YtlbjfigdocbffaaTriMath
namespace Go.Proofs.Ytlbjfigdocbffaa
open Go.RowKit
set_option linter.unusedVariables false
set_option linter.unusedSimpArgs false

/-- What a block holds, in cells. -/
def tcL (s : ByteArray) : List Value := (List.range 120).map fun i => byteVal (s.data.toList.getD i 0)
theorem tcL_len (s : ByteArray) : (tcL s).length = 120 := by simp [tcL]
theorem tcL_one (s : ByteArray) : ∀ u ∈ tcL s, u.oneCell' = true := fun u hu => by
  obtain ⟨i, _, rfl⟩ := List.mem_map.1 hu; rfl
theorem tcL_get (s : ByteArray) (i : Nat) (h : i < 120) : (tcL s)[i]? = some (byteVal (s.data.toList.getD i 0)) := by simp [tcL, h]
def zero120 : ByteArray := lineOf (List.replicate 120 0)
theorem zero120_size : zero120.size = 120 := by rw [zero120, lineOf_size]; simp
set_option maxRecDepth 100000 in
theorem tc_info : (Try.prog.info? 80).map (fun i => (i.zero, i.size, i.bytes)) = some (some (.agg (tcL zero120).toArray), 120, 120) := by kernel_rfl
theorem info_gen {P : Program} {t : TypeId} {c : Value} {n k : Nat} (h : (P.info? t).map (fun i => (i.zero, i.size, i.bytes)) = some (some c, n, k)) :
    (P.info? t).map (fun i => (i.zero, i.size)) = some (some c, n) ∧ ∃ i, P.info? t = some i ∧ i.zero = some c ∧ i.size = n ∧ i.bytes = k := by
  cases hq : P.info? t with
  | none => rw [hq] at h; cases h
  | some i => rw [hq] at h; simp at h; exact ⟨by simp [h.1, h.2.1], i, rfl, h.1, h.2.1, h.2.2⟩
theorem tc_zs : (Try.prog.info? 80).map (fun i => (i.zero, i.size)) = some (some (.agg (tcL zero120).toArray), 120) := (info_gen tc_info).1
theorem tc_size (s : ByteArray) : (tcL s).toArray.size = 120 := by rw [List.size_toArray, tcL_len]
theorem tc_isz (s : ByteArray) : (Try.prog.info? 80).map (·.size) = some (tcL s).length := by rw [tcL_len]; exact (zero_of_info tc_zs).2
theorem tc_isa (s : ByteArray) : (Try.prog.info? 80).map (·.size) = some (tcL s).toArray.size := by rw [tc_size]; exact (zero_of_info tc_zs).2
theorem tc_one (s : ByteArray) : (tcL s).toArray.all (·.oneCell') = true := by
  rw [Array.all_eq_true_iff_forall_mem]
  intro u hu
  exact tcL_one s u (by simpa using hu)
theorem tc_under : Try.prog.underlying 80 = some (.array 120 5) := by kernel_rfl
/-- A whole block is read. -/
theorem tc_load {w : World} {b o : Nat} (s : ByteArray) (h : ∀ j, j < 120 → w.cell? ⟨b, o + j, none⟩ = (tcL s)[j]?) : (Instr.loadAt 80 (.pointer (some ⟨b, o, none⟩))).run Try.prog w = .ok (.agg (tcL s).toArray) w :=
  run_loadAt_mid w b o 80 (tcL s) _ (fun j v hj => by
    have hl : j < 120 := by rw [← tcL_len s]; exact (List.getElem?_eq_some_iff.1 hj).1
    rw [h j hl]; exact hj) tc_under rfl (tc_isz s)
theorem tc_str {w : World} {b : Nat} (s : ByteArray) (hs : s.size = 120) (h : ∀ j, j < 120 → w.cell? ⟨b, j, none⟩ = (tcL s)[j]?) : (convert 86 9 (.slice (some ⟨b, 0, none⟩) 120 120)).run Try.prog w = .ok (.string s) w := by
  have hl : s.data.toList.length = 120 := by rw [← hs]; exact Array.length_toList
  have := run_convert_bytes_back (P := Try.prog) w 86 9 5 ⟨b, 0, none⟩ 120 s.data.toList Try.underlying86 Try.underlying5 Try.underlying9 (fun j hj => by
    rw [hl] at hj
    rw [addr_at, Nat.zero_add, h j hj, tcL_get s j hj, List.getD_eq_getElem?_getD, List.getElem?_eq_getElem (by omega)]; rfl)
  rw [hl] at this
  exact this
/-- The entries of a node, in cells. -/
def ndL (e : Nat → Nat) : List Value := (List.range 16).map fun i => .int .u8 ((e i : Nat) : Int)
theorem ndL_len (e : Nat → Nat) : (ndL e).length = 16 := by simp [ndL]
theorem ndL_one (e : Nat → Nat) : ∀ u ∈ ndL e, u.oneCell' = true := fun u hu => by
  obtain ⟨i, _, rfl⟩ := List.mem_map.1 hu; rfl
theorem ndL_get (e : Nat → Nat) (i : Nat) (h : i < 16) : (ndL e)[i]? = some (.int .u8 ((e i : Nat) : Int)) := by simp [ndL, h]
theorem nd_info : (Try.prog.info? 91).map (fun i => (i.zero, i.size, i.bytes)) = some (some (.agg (ndL fun _ => 0).toArray), 16, 16) := by kernel_rfl
theorem nd_zs : (Try.prog.info? 91).map (fun i => (i.zero, i.size)) = some (some (.agg (ndL fun _ => 0).toArray), 16) := (info_gen nd_info).1
theorem nd_size (e : Nat → Nat) : (ndL e).toArray.size = 16 := by rw [List.size_toArray, ndL_len]
theorem nd_isz (e : Nat → Nat) : (Try.prog.info? 91).map (·.size) = some (ndL e).length := by rw [ndL_len]; exact (zero_of_info nd_zs).2
theorem nd_isa (e : Nat → Nat) : (Try.prog.info? 91).map (·.size) = some (ndL e).toArray.size := by rw [nd_size]; exact (zero_of_info nd_zs).2
theorem nd_one (e : Nat → Nat) : (ndL e).toArray.all (·.oneCell') = true := by
  rw [Array.all_eq_true_iff_forall_mem]
  intro u hu
  exact ndL_one e u (by simpa using hu)
theorem nd_under : Try.prog.underlying 91 = some (.array 16 5) := by kernel_rfl
theorem nd_load {w : World} {b o : Nat} (e : Nat → Nat) (h : ∀ j, j < 16 → w.cell? ⟨b, o + j, none⟩ = (ndL e)[j]?) : (Instr.loadAt 91 (.pointer (some ⟨b, o, none⟩))).run Try.prog w = .ok (.agg (ndL e).toArray) w :=
  run_loadAt_mid w b o 91 (ndL e) _ (fun j v hj => by
    have hl : j < 16 := by rw [← ndL_len e]; exact (List.getElem?_eq_some_iff.1 hj).1
    rw [h j hl]; exact hj) nd_under rfl (nd_isz e)
/-- What a block holds that is a node with these entries. -/
def ntext (e : Nat → Nat) : ByteArray := lineOf ((List.range 120).map fun i => if i < 16 then UInt8.ofNat (e i) else 0)
theorem ntext_size (e : Nat → Nat) : (ntext e).size = 120 := by rw [ntext, lineOf_size]; simp
theorem tcL_ntext {e : Nat → Nat} (h : ∀ i, i < 16 → e i ≤ 255) {i : Nat} (hi : i < 120) : (tcL (ntext e))[i]? = some (.int .u8 ((if i < 16 then e i else 0 : Nat) : Int)) := by
  rw [tcL_get _ _ hi]
  have : (ntext e).data.toList = (List.range 120).map fun i => if i < 16 then UInt8.ofNat (e i) else 0 := rfl
  rw [this, List.getD_eq_getElem?_getD, List.getElem?_map, List.getElem?_range hi]
  show some (byteVal (if i < 16 then UInt8.ofNat (e i) else 0)) = _
  by_cases h2 : i < 16
  · rw [if_pos h2, if_pos h2]
    have := h i h2
    unfold byteVal
    rw [UInt8.toNat_ofNat', Nat.mod_eq_of_lt (by omega)]
  · rw [if_neg h2, if_neg h2]; rfl
/-- Nodes of which the same text is told have the same entries. -/
theorem ntext_inj {e f : Nat → Nat} (he : ∀ i, i < 16 → e i ≤ 255) (hf : ∀ i, i < 16 → f i ≤ 255) (h : ntext e = ntext f) : ∀ i, i < 16 → e i = f i := fun i hi => by
  have h1 := tcL_ntext he (i := i) (by omega)
  rw [h, tcL_ntext hf (by omega), if_pos hi, if_pos hi] at h1
  have h2 := (Value.int.inj (Option.some.inj h1)).2
  exact (Int.ofNat_inj.1 h2).symm
/-- What is read at a key, and whether it is there. -/
theorem MapZ.look_ok {w : World} {P : Program} {k : TypeId} {b n : Nat} {Z : Int → Bool} {V : Int → Value} {d : Value} (hk : P.underlying k = some (.int .i64)) {t e : TypeId} (ht : P.underlying t = some (.map k e)) (hz : ∀ w, (zeroValue e).run P w = .ok d w) (h : MapZ w P k b n Z V d) {z : Int} (hi : In64 z) :
    (Instr.lookup t (.map (some b)) (.int .i64 z) true).run P w = .ok (.tuple #[V z, .bool (Z z)]) w := by
  obtain ⟨D, h1, h2⟩ := h
  obtain ⟨v, ps, hr, hv⟩ := h1.look_ok (Maps.int_keyed hk) ht (hz w) (zd := .held d) (zp := []) rfl (kz_key hk hi)
  rw [(h2 z hi).2] at hv
  rw [(h2 z hi).1] at hr
  have e1 : (DataW.held v : DataW Value) = .held (V z) := congrArg (fun o => match o with | some p => p.1 | none => .nil) hv
  injection e1 with e1
  rw [← e1]; exact hr
/-- A heap: its box h, its table g, its map m, what its source u reads; X tells what each block holds. -/
structure HpAt (w : World) (h g m n : Nat) (u : Value) (C : Nat → Nat) (Z : Int → Bool) (F : Int → Value) (X : Nat → ByteArray) : Prop where
  b : w.heap[h]? = some (.cells #[.iface 59 u, .pointer (some ⟨g, 0, none⟩), .map (some m)] 84 (0, 0))
  t : TabAt w g n C
  p : MapZ w Try.prog 3 m n Z F (.agg (tcL zero120).toArray)
  s : Reads w u (List.replicate n (.string zero120))
  sb : ∀ k, u.ownBlock = some k → k ≠ g ∧ k ≠ m
  sm : Small n C
  hg : h ≠ g
  hm : h ≠ m
  gm : g ≠ m
  f : ∀ i : Nat, i < n → F i = .agg (tcL (X i)).toArray
  z : ∀ i : Nat, i < n → Z i = false → X i = zero120
  k : ∀ z, In64 z → Z z = true → 0 ≤ z ∧ z < (n : Int)
  x : ∀ i, (X i).size = 120
section
variable {w w' : World} {h g m n : Nat} {u : Value} {C : Nat → Nat} {Z : Int → Bool} {F : Int → Value} {X : Nat → ByteArray}
theorem HpAt.below (H : HpAt w h g m n u C Z F X) (hb : Below w.heap.size w w') : HpAt w' h g m n u C Z F X :=
  ⟨(hb.block h (Array.getElem?_eq_some_iff.1 H.b).1).trans H.b, H.t.below hb H.t.lt, H.p.heap (hb.block m H.p.lt), H.s.below hb, H.sb, H.sm, H.hg, H.hm, H.gm, H.f, H.z, H.k, H.x⟩
theorem HpAt.drew (H : HpAt w h g m n u C Z F X) : HpAt w.drew h g m n u C Z F X := H.below ⟨rfl, rfl, rfl, Nat.le_refl _, fun _ _ => rfl⟩
theorem HpAt.lt (H : HpAt w h g m n u C Z F X) : h < w.heap.size := (Array.getElem?_eq_some_iff.1 H.b).1
theorem HpAt.c0 (H : HpAt w h g m n u C Z F X) : w.cell? ⟨h, 0, none⟩ = some (.iface 59 u) := by simp [World.cell?, H.b]
theorem HpAt.c1 (H : HpAt w h g m n u C Z F X) : w.cell? ⟨h, 1, none⟩ = some (.pointer (some ⟨g, 0, none⟩)) := by simp [World.cell?, H.b]
theorem HpAt.c2 (H : HpAt w h g m n u C Z F X) : w.cell? ⟨h, 2, none⟩ = some (.map (some m)) := by simp [World.cell?, H.b]
theorem HpAt.look (H : HpAt w h g m n u C Z F X) {z : Int} (hz : In64 z) : (Instr.lookup 78 (.map (some m)) (.int .i64 z) true).run Try.prog w = .ok (.tuple #[F z, .bool (Z z)]) w := by
  exact H.p.look_ok Try.underlying3 Try.underlying78 ((zero_of_info tc_zs).1) hz
/-- Is a block lent? -/
theorem lent_any (H : HpAt w h g m n u C Z F X) (b : Int) : Calls Try.prog 39 #[.pointer (some ⟨h, 0, none⟩), .int .i64 b] w fun e w' => e = .returned (.bool (cntdB n C b)) ∧ w = w' := by
  have c1 := H.c1
  have cc := count_any g n C b w H.t H.sm
  clear H
  unfold cntdB
  by_cases h3 : 3 ≤ b
  · have t1 : decide (3 ≤ b) = true := decide_eq_true h3
    have e1 : decide (3 ≤ b ∧ 0 < cntV n C b) = decide (0 < cntV n C b) := by
      apply decide_eq_decide.2; omega
    rw [e1]
    clear e1
    generalize cntV n C b = q at *
    go_enter Try.func39, Try.ntmps39
    go_wp2_with (fail)
    refine cc.mono ?_
    rintro e w' ⟨rfl, rfl⟩
    go_wp2
    go_ret
    exact ⟨rfl, rfl⟩
  · have t1 : decide (3 ≤ b) = false := decide_eq_false h3
    have e1 : decide (3 ≤ b ∧ 0 < cntV n C b) = false := by
      apply decide_eq_false; omega
    rw [e1]
    clear e1
    go_enter Try.func39, Try.ntmps39
    go_wp2
    go_ret
    exact ⟨rfl, rfl⟩
/-- What a source tells. -/
theorem src_any (H : HpAt w h g m n u C Z F X) (i : Nat) (hi : i < n) : Calls Try.prog 98 #[u, .int .i64 (i : Int)] w fun e w' => e = .returned (.tuple #[.string zero120, .int .i64 0]) ∧ w = w' := by
  have hs := H.s
  have hn := H.sm.n200
  clear H
  rcases hs with ⟨_, h2⟩ | ⟨b, off, cap, h1, h2, h3⟩
  · have := congrArg List.length h2
    simp at this; omega
  · rw [List.length_replicate] at h1 h3
    subst h1
    have c := h3 i hi
    rw [List.getD_eq_getElem?_getD, List.getElem?_replicate, if_pos hi] at c
    simp only [Option.getD_some] at c
    have t1 : ((n : Int) ≤ (i : Int)) = False := by simp; omega
    have t2 : (i : Int) < (n : Int) := by omega
    have t3 : ¬ ((i : Int) < 0) := by omega
    have t4 : decide ((i : Int) < 0) = false := decide_eq_false t3
    have t5 : decide ((n : Int) ≤ (i : Int)) = false := decide_eq_false (by omega)
    clear h3 hi h2
    generalize zero120 = s at *
    go_enter Try.func98, Try.ntmps98
    go_wp2
    go_ret2
    exact ⟨rfl, rfl⟩
end
end Go.Proofs.Ytlbjfigdocbffaa
