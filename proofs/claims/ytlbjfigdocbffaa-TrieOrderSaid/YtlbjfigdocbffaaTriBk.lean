/- trie: a book and its trees. -/
import Derived.Test.YtlbjfigdocbffaaTriState
import Derived.Test.YtlbjfigdocbffaaRowOps
import Derived.Test.YtlbjfigdocbffaaStArgs
namespace Go.Proofs.Ytlbjfigdocbffaa
open Go.RowKit
set_option linter.unusedVariables false
set_option linter.unusedSimpArgs false

/-- Of what was there, only the heap's blocks and the book's rows were turned. -/
structure BTo (w : World) (g m rb kb tb : Nat) (w' : World) : Prop where
  b0 : Below 0 w w'
  oth : ∀ q, q < w.heap.size → q ≠ g → q ≠ m → q ≠ rb → q ≠ kb → q ≠ tb → w'.heap[q]? = w.heap[q]?
section
variable {w w1 w' : World} {bk rb kb tb h g m : Nat} {u : Value} {R : Nat → Nat} {kv tv : Nat → Value} {K K' : Nat → List (Nat × ByteArray)} {Y Y' : Tri.TW ByteArray} {Z : Int → Bool} {G : Nat → Prop} {lv pos : Nat → Nat} {at_ r : Nat}
theorem BTo.refl (w : World) (g m rb kb tb : Nat) : BTo w g m rb kb tb w := ⟨Below.refl _ _, fun _ _ _ _ _ _ _ => rfl⟩
theorem BTo.trans (a : BTo w g m rb kb tb w1) (b : BTo w1 g m rb kb tb w') : BTo w g m rb kb tb w' :=
  ⟨a.b0.trans b.b0, fun q h1 h2 h3 h4 h5 h6 => (b.oth q (Nat.lt_of_lt_of_le h1 a.b0.size) h2 h3 h4 h5 h6).trans (a.oth q h1 h2 h3 h4 h5 h6)⟩
theorem BTo.hto (a : HTo w g m w') : BTo w g m rb kb tb w' := ⟨a.b0, fun q h1 h2 h3 _ _ _ => a.oth q h1 h2 h3⟩
theorem BTo.kto (a : HTo w kb tb w') : BTo w g m rb kb tb w' := ⟨a.b0, fun q h1 _ _ _ h5 h6 => a.oth q h1 h5 h6⟩
theorem BTo.quiet (a : Below w.heap.size w w') : BTo w g m rb kb tb w' := ⟨a.mono (Nat.zero_le _), fun q h1 _ _ _ _ _ => a.block q h1⟩
theorem BTo.row (i : Nat) (v : Value) : BTo w g m rb kb tb (w.setCell ⟨rb, i, none⟩ v) :=
  ⟨⟨rfl, rfl, rfl, by simp, fun q hq => absurd hq (Nat.not_lt_zero _)⟩, fun q _ _ _ h4 _ _ => Below.heap_setCell _ _ _ _ (fun e => h4 (by have e : q = rb := e; exact e))⟩
theorem BTo.size (a : BTo w g m rb kb tb w') : w.heap.size ≤ w'.heap.size := a.b0.size
/-- A book and its trees. -/
structure Bk (w : World) (bk rb kb tb h g m : Nat) (u : Value) (Y : Tri.TW ByteArray) (Z : Int → Bool) (R : Nat → Nat) (G : Nat → Prop) (lv pos : Nat → Nat) (kv tv : Nat → Value) : Prop where
  bw : BkW w bk rb kb tb h g m R kv tv (fun i => treeL Y.σ.e Y.T (R i))
  hp : Hp w h g m 200 u (cOf Y.σ.c) Z Y.T
  ts : TS 200 Y R G lv pos
  A : BkA bk rb kb tb h g m u
theorem Bk.below (b : Bk w bk rb kb tb h g m u Y Z R G lv pos kv tv) (hb : Below w.heap.size w w') : Bk w' bk rb kb tb h g m u Y Z R G lv pos kv tv := ⟨b.bw.below hb, b.hp.below hb, b.ts, b.A⟩
theorem below_drewN (w : World) (k : Nat) : Below w.heap.size w (w.drewN k) := ⟨rfl, rfl, rfl, Nat.le_refl _, fun _ _ => rfl⟩
theorem BkW.congrK (H : BkW w bk rb kb tb h g m R kv tv K) (e : ∀ i, i < 4 → K i = K' i) : BkW w bk rb kb tb h g m R kv tv K' :=
  ⟨H.b, H.r, H.k, H.t, fun i hi => by rw [← e i hi]; exact H.kr i hi, fun i hi => by rw [← e i hi]; exact H.tr i hi, H.kd, H.td, fun i hi => by rw [← e i hi]; exact H.len i hi, H.kc, H.tc⟩
theorem treeL_len (e : Nat → Nat → Nat) (T : Nat → ByteArray) (r : Nat) : (treeL e T r).length ≤ 4096 := lf_len _ _ _
theorem treeL_congr {e e' : Nat → Nat → Nat} {T T' : Nat → ByteArray} {r r' : Nat} (h : ∀ k, k < 4096 → treeF e T r k = treeF e' T' r' k) : treeL e T r = treeL e' T' r' := lf_congr _ _ fun k _ h2 => h k (by omega)
theorem hp_kto {n : Nat} {C : Nat → Nat} {X : Nat → ByteArray} (H : Hp w h g m n u C Z X) (A : BkA bk rb kb tb h g m u) (t : HTo w kb tb w') : Hp w' h g m n u C Z X := H.same t.size fun q hq hc => by
  have := A.hr; have := A.gr; have := A.mr; have hu := A.ur
  refine t.oth q hq ?_ ?_ <;> rcases hc with rfl | rfl | rfl | hc
  all_goals first | omega | exact (hu _ hc).2.1 | exact (hu _ hc).2.2
theorem hp_row {n : Nat} {C : Nat → Nat} {X : Nat → ByteArray} (H : Hp w h g m n u C Z X) (A : BkA bk rb kb tb h g m u) (i : Nat) (v : Value) : Hp (w.setCell ⟨rb, i, none⟩ v) h g m n u C Z X := H.same (by simp) fun q hq hc => by
  have := A.hr; have := A.gr; have := A.mr; have hu := A.ur
  refine Below.heap_setCell _ _ _ _ (fun e => ?_)
  have e : q = rb := e
  rcases hc with rfl | rfl | rfl | hc
  · omega
  · omega
  · omega
  · exact (hu _ hc).1 e
/-- The root is written behind what was done. -/
theorem bk_fin (bw : BkW w bk rb kb tb h g m R kv tv K) (hp : Hp w h g m 200 u (cOf Y.σ.c) Z Y.T) (A : BkA bk rb kb tb h g m u) (ts : TS 200 Y (updF R at_ r) G lv pos) (hK : ∀ i, i < 4 → K i = treeL Y.σ.e Y.T (updF R at_ r i)) :
    Bk (w.setCell ⟨rb, at_, none⟩ (.int .i64 (r : Int))) bk rb kb tb h g m u Y Z (updF R at_ r) G lv pos kv tv :=
  ⟨(bw.setR A at_ r).congrK hK, hp_row hp A _ _, ts, A⟩
theorem keysOther (hs : SameBut Y Y' R at_) {l : List (Nat × ByteArray)} (hl : l = treeL Y'.σ.e Y'.T r) : ∀ i, i < 4 → updF (fun i => treeL Y.σ.e Y.T (R i)) at_ l i = treeL Y'.σ.e Y'.T (updF R at_ r i) := fun i hi => by
  by_cases e : i = at_
  · subst e; rw [updF_same, updF_same, hl]
  · rw [updF_other e, updF_other e]
    exact treeL_congr fun k _ => (hs i hi e k).symm
theorem ins_tree {key : Nat} {s : ByteArray} (hk : key < 4096) (hf : ∀ k, treeF Y'.σ.e Y'.T r k = if k % 4096 = key then some s else treeF Y.σ.e Y.T (R at_) k) : insL key s false (treeL Y.σ.e Y.T (R at_)) = treeL Y'.σ.e Y'.T r := by
  unfold treeL
  rw [insL_false _ _ _ _ _ (Nat.zero_le _) (by omega)]
  refine lf_congr _ _ fun k _ h2 => ?_
  rw [hf k, Nat.mod_eq_of_lt (by omega)]
theorem del_tree {key : Nat} {s : ByteArray} (hf : ∀ k, treeF Y'.σ.e Y'.T r k = if k % 4096 = key then none else treeF Y.σ.e Y.T (R at_) k) : insL key s true (treeL Y.σ.e Y.T (R at_)) = treeL Y'.σ.e Y'.T r := by
  unfold treeL
  rw [insL_true]
  refine lf_congr _ _ fun k _ h2 => ?_
  rw [hf k, Nat.mod_eq_of_lt (by omega)]
theorem clip_tree {K : List (Nat × ByteArray)} {key p : Nat} (hK : K = treeL Y.σ.e Y.T (R at_)) (hf : ∀ k, treeF Y'.σ.e Y'.T r k = if key ≤ k % 4096 then none else treeF Y.σ.e Y.T (R at_) k) (hp : p ≤ K.length) (h1 : ∀ j (hj : j < K.length), j < p → K[j].1 < key) (h2 : ∀ hn : p < K.length, key ≤ K[p].1) : K.take p = treeL Y'.σ.e Y'.T r := by
  subst hK
  unfold treeL at *
  rw [lf_take _ key 4096 0 p hp h1 h2]
  refine lf_congr _ _ fun k _ h3 => ?_
  rw [hf k, Nat.mod_eq_of_lt (by omega)]
theorem drop_tree : treeL Y.σ.e Y.T 0 = [] := lf_nil _ _ fun k _ _ => by unfold treeF; rw [Tri.get_zero, if_pos rfl]
theorem used240 {C : Nat → Nat} (h : Small 200 C) : usedTo C 240 = usedTo C 200 := usedTo_top h.z 40
end
/-- What Set needs and makes, whatever blocks are fresh. -/
theorem ts_set_z {Y : Tri.TW ByteArray} {R : Nat → Nat} {G : Nat → Prop} {lv pos : Nat → Nat} {at_ key : Nat} (h g m : Nat) (u : Value) (Z : Int → Bool) (ts : TS 200 Y R G lv pos) (hat : at_ < 4) (hk : key < 4096) (s : ByteArray) (hroom : usedTo (cOf Y.σ.c) 200 + 4 ≤ 200) :
    ∃ t, t < 200 ∧ cOf Y.σ.c t = 0 ∧ (∀ j, j < t → cOf Y.σ.c j ≠ 0) ∧ 3 ≤ t ∧ ∃ r Y' Z' G' lv' pos', TS 200 Y' (updF R at_ r) G' lv' pos' ∧ SameBut Y Y' R at_ ∧ (∀ k, treeF Y'.σ.e Y'.T r k = if k % 4096 = key then some s else treeF Y.σ.e Y.T (R at_) k) ∧
      ∀ w, Hp w h g m 200 u (cOf (upd Y.σ.c t 1)) (updZ Z (t : Int) true) (updX Y.T t s) → Calls Try.prog 24 #[.pointer (some ⟨h, 0, none⟩), .int .i64 (R at_ : Int), .int .i64 (key : Int), .int .i64 (t : Int)] w (HpG w h g m 200 u (cOf Y'.σ.c) Z' Y'.T (.tuple #[.int .i64 (r : Int), .int .i64 0])) := by
  obtain ⟨t0, a1, a2, a3, a4, _⟩ := ts_set (key := key) h g m u Z (Nat.le_refl _) ts hat hk s hroom
  obtain ⟨t, b1, b2', b3', b4, r, Y', Z', G', lv', pos', _, c1, c2, c3, _, _, _, c4⟩ := ts_set (key := key) h g m u (updZ Z (t0 : Int) true) (Nat.le_refl _) ts hat hk s hroom
  have e : t = t0 := by
    rcases Nat.lt_or_ge t t0 with z | z
    · exact absurd b2' (a3 t z)
    · rcases Nat.lt_or_ge t0 t with y | y
      · exact absurd a2 (b3' t0 y)
      · omega
  subst e
  exact ⟨t, b1, b2', b3', b4, r, Y', Z', G', lv', pos', c1, c2, c3, c4⟩
theorem own_sl (a : Option Addr) (n n' c c' : Nat) : (Value.slice a n c).ownBlock = (Value.slice a n' c').ownBlock := by cases a <;> rfl
/-- An operation of a script. -/
structure OpR where
  w : Int
  t : Int
  k : Int
  l : Int
def opE : Enc OpR := ⟨4, fun p => [.int .i64 p.w, .int .i64 p.t, .int .i64 p.k, .int .i64 p.l], by decide, fun _ => rfl, fun a u h => by
  simp at h; rcases h with rfl | rfl | rfl | rfl <;> rfl⟩
def OpOk (p : OpR) : Prop := (-9223372036854775808 ≤ p.w ∧ p.w ≤ 9223372036854775807) ∧ (-9223372036854775808 ≤ p.t ∧ p.t ≤ 9223372036854775807) ∧ (-9223372036854775808 ≤ p.k ∧ p.k ≤ 9223372036854775807) ∧ (-9223372036854775808 ≤ p.l ∧ p.l ≤ 9223372036854775807)
end Go.Proofs.Ytlbjfigdocbffaa
