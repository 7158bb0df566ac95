/- Rows of elements of several cells: what a slice reads as, and what a call owns, for whatever program. -/
import Derived.Test.YtlbjfigdocbffaaSl3
import Derived.Test.YtlbjfigdocbffaaSl4
namespace Go.Proofs.Ytlbjfigdocbffaa
open Go.RowKit
set_option linter.unusedVariables false
set_option linter.unusedSimpArgs false

/-- How elements lie in cells. -/
structure Enc (α : Type) where
  k : Nat
  f : α → List Value
  pos : 0 < k
  len : ∀ a, (f a).length = k
  one : ∀ a, ∀ u ∈ f a, u.oneCell' = true
namespace Enc
variable {α : Type} (E : Enc α)
def all (l : List α) : List Value := l.flatMap E.f
theorem all_nil : E.all [] = [] := rfl
theorem all_cons (a : α) (l : List α) : E.all (a :: l) = E.f a ++ E.all l := rfl
theorem all_append (l m : List α) : E.all (l ++ m) = E.all l ++ E.all m := List.flatMap_append
theorem all_single (a : α) : E.all [a] = E.f a := by rw [all_cons, all_nil, List.append_nil]
theorem all_len : ∀ l : List α, (E.all l).length = l.length * E.k
  | [] => by simp [all]
  | a :: l => by rw [all_cons, List.length_append, E.len, all_len l, List.length_cons, Nat.succ_mul]; omega
theorem all_one (l : List α) : ∀ u ∈ E.all l, u.oneCell' = true := fun u hu => by
  obtain ⟨a, _, h⟩ := List.mem_flatMap.1 hu
  exact E.one a u h
theorem all_take : ∀ (l : List α) (n : Nat), (E.all l).take (n * E.k) = E.all (l.take n)
  | [], n => by simp [all]
  | a :: l, 0 => by simp [all]
  | a :: l, n + 1 => by
    rw [all_cons, List.take_succ_cons, all_cons, List.take_append, E.len, ← all_take l n, List.take_of_length_le (by rw [E.len, Nat.succ_mul]; omega), show (n + 1) * E.k - E.k = n * E.k by rw [Nat.succ_mul]; omega]
theorem all_drop : ∀ (l : List α) (n : Nat), (E.all l).drop (n * E.k) = E.all (l.drop n)
  | [], n => by simp [all]
  | a :: l, 0 => by simp
  | a :: l, n + 1 => by
    rw [all_cons, List.drop_succ_cons, ← all_drop l n, List.drop_append, E.len, List.drop_of_length_le (by rw [E.len, Nat.succ_mul]; omega), List.nil_append, show (n + 1) * E.k - E.k = n * E.k by rw [Nat.succ_mul]; omega]
theorem all_get (l : List α) (i : Nat) (hi : i < l.length) (j : Nat) (hj : j < E.k) : (E.all l)[i * E.k + j]? = (E.f l[i])[j]? := by
  rw [← List.getElem?_drop, all_drop, List.drop_eq_getElem_cons hi, all_cons, List.getElem?_append_left (by rw [E.len]; exact hj)]
end Enc
variable {α : Type}
/-- What a slice reads as. -/
def ReadsE (E : Enc α) (w : World) (v : Value) (l : List α) : Prop :=
  ((∃ a c, v = .slice a 0 c) ∧ l = []) ∨
  ∃ b off cap, v = .slice (some ⟨b, off, none⟩) l.length cap ∧ b < w.heap.size ∧ ∀ j u, (E.all l)[j]? = some u → w.cell? ⟨b, off + j, none⟩ = some u
theorem ReadsE.below {E : Enc α} {w w' : World} {v : Value} {l : List α} (h : ReadsE E w v l) (hb : Below w.heap.size w w') : ReadsE E w' v l := by
  rcases h with h | ⟨b, off, cap, h1, h2, h3⟩
  · exact .inl h
  · exact .inr ⟨b, off, cap, h1, Nat.lt_of_lt_of_le h2 hb.size, fun j u hj => by rw [hb.cell (p := ⟨b, off + j, none⟩) h2]; exact h3 j u hj⟩
theorem ReadsE.len_run {E : Enc α} {P : Program} {T S : TypeId} (hT : P.underlying S = some (.slice T)) {w : World} {v : Value} {l : List α} (h : ReadsE E w v l) (ty : TypeId) (w' : World) :
    (Builtin.len_ #[S] ty #[v]).run P w' = .ok (.int .i64 (l.length : Int)) w' := by
  rcases h with ⟨⟨a, c, rfl⟩, rfl⟩ | ⟨b, off, cap, rfl, h2, h3⟩ <;> simp [Builtin.len_, run_underlying hT, goInt]
theorem ReadsE.items {E : Enc α} {w : World} {v : Value} {l : List α} (h : ReadsE E w v l) :
    ∃ a cap, v = .slice a l.length cap ∧ ∀ i (hi : i < l.length), ∃ cb co, a = some ⟨cb, co, none⟩ ∧ cb < w.heap.size ∧ ∀ j, j < E.k → w.cell? ⟨cb, co + (i * E.k + j), none⟩ = (E.f l[i])[j]? := by
  rcases h with ⟨⟨a, c, rfl⟩, rfl⟩ | ⟨b, off, cap, rfl, h1, h2⟩
  · exact ⟨a, c, rfl, fun i hi => absurd hi (Nat.not_lt_zero _)⟩
  · refine ⟨_, cap, rfl, fun i hi => ⟨b, off, rfl, h1, fun j hj => ?_⟩⟩
    have hl : j < (E.f l[i]).length := by rw [E.len]; exact hj
    rw [List.getElem?_eq_getElem hl]
    refine h2 _ _ ?_
    rw [E.all_get l i hi j hj, List.getElem?_eq_getElem hl]
/-- What a call owns, from block B on: a slice that is nil or stands at the head of a row. -/
structure OwnE (E : Enc α) (w : World) (B : Nat) (T : TypeId) (v : Value) (l : List α) : Prop where
  o : w.ownsRow B T E.k v l.length (E.all l)
section
variable {E : Enc α} {w w' : World} {B : Nat} {T : TypeId} {v : Value} {l : List α}
theorem OwnE.nil (E : Enc α) (w : World) (B : Nat) (T : TypeId) : OwnE E w B T (.slice none 0 0) [] := ⟨World.ownsRow_nil _ _ _ _⟩
theorem OwnE.form (h : OwnE E w B T v l) (hn : 0 < l.length) : ∃ g cap, v = .slice (some ⟨g, 0, none⟩) l.length cap ∧ B ≤ g ∧ g < w.heap.size := by
  rcases h.o.2 with ⟨_, h0⟩ | ⟨g, cap, cur, h1, h2, h3, _⟩
  · omega
  · exact ⟨g, cap, h1, h2, (Array.getElem?_eq_some_iff.1 h3).1⟩
theorem OwnE.forms (h : OwnE E w B T v l) : (v = .slice none 0 0 ∧ l = []) ∨ ∃ g cap, v = .slice (some ⟨g, 0, none⟩) l.length cap ∧ B ≤ g ∧ g < w.heap.size := by
  rcases h.o.2 with ⟨h1, h0⟩ | ⟨g, cap, cur, h1, h2, h3, _⟩
  · exact .inl ⟨h1, List.eq_nil_of_length_eq_zero h0⟩
  · exact .inr ⟨g, cap, h1, h2, (Array.getElem?_eq_some_iff.1 h3).1⟩
theorem OwnE.cell {g n cap : Nat} (h : OwnE E w B T (.slice (some ⟨g, 0, none⟩) n cap) l) {i : Nat} (hi : i < l.length) {j : Nat} (hj : j < E.k) : w.cell? ⟨g, i * E.k + j, none⟩ = (E.f l[i])[j]? := by
  have hn : n = l.length := by rcases h.o.2 with ⟨h1, _⟩ | ⟨_, _, _, h1, _⟩ <;> simp at h1; exact h1.2.1
  subst hn
  rw [h.o.cellAt _ (by have : (i + 1) * E.k ≤ l.length * E.k := Nat.mul_le_mul_right _ hi
                       rw [Nat.succ_mul] at this; omega), E.all_get l i hi j hj]
theorem OwnE.frozen {g n cap : Nat} (h : OwnE E w B T (.slice (some ⟨g, 0, none⟩) n cap) l) (i : Nat) : w.frozen? ⟨g, i, none⟩ = false := by
  have hn : n = l.length := by rcases h.o.2 with ⟨h1, _⟩ | ⟨_, _, _, h1, _⟩ <;> simp at h1; exact h1.2.1
  subst hn
  exact h.o.frozenAt i
theorem OwnE.reads (h : OwnE E w B T v l) : ReadsE E w v l := by
  rcases h.o.2 with ⟨h1, h2⟩ | ⟨g, cap, cur, h1, h2, h3, h4, h5, h6, h7⟩
  · exact .inl ⟨⟨_, _, h1⟩, List.eq_nil_of_length_eq_zero h2⟩
  · refine .inr ⟨g, 0, cap, h1, (Array.getElem?_eq_some_iff.1 h3).1, fun j u hj => ?_⟩
    subst h1
    rw [Nat.zero_add]
    have hl : j < l.length * E.k := by
      rw [← E.all_len]; exact (List.getElem?_eq_some_iff.1 hj).1
    rw [h.o.cellAt j hl]; exact hj
theorem OwnE.drew (h : OwnE E w B T v l) : OwnE E w.drew B T v l := ⟨h.o.drew⟩
theorem OwnE.drewN (h : OwnE E w B T v l) (k : Nat) : OwnE E (w.drewN k) B T v l := ⟨h.o.1, h.o.2⟩
theorem OwnE.mono {B' : Nat} (h : OwnE E w B T v l) (hB : B' ≤ B) : OwnE E w B' T v l :=
  ⟨h.o.1, h.o.2.imp id fun ⟨g, cap, cur, h1, h2, h3⟩ => ⟨g, cap, cur, h1, Nat.le_trans hB h2, h3⟩⟩
theorem OwnE.lt (h : OwnE E w B T v l) : ∀ k, v.ownBlock = some k → B ≤ k ∧ k < w.heap.size := h.o.lt
theorem OwnE.kept {v' : Value} (h : OwnE E w B T v l) (hk : KeptBut v' w w') (ha : Apart v v') : OwnE E w' B T v l := by
  refine ⟨h.o.1, ?_⟩
  rcases h.o.2 with h1 | ⟨g, cap, cur, h1, h2, h3, h4⟩
  · exact .inl h1
  · refine .inr ⟨g, cap, cur, h1, h2, ?_, h4⟩
    rw [hk g (Array.getElem?_eq_some_iff.1 h3).1 (ha g (by rw [h1]; rfl))]; exact h3
theorem OwnE.below {C : Nat} (h : OwnE E w B T v l) (hb : Below C w w') (hC : ∀ k, v.ownBlock = some k → k < C) : OwnE E w' B T v l := by
  refine ⟨h.o.1, ?_⟩
  rcases h.o.2 with h1 | ⟨g, cap, cur, h1, h2, h3, h4⟩
  · exact .inl h1
  · exact .inr ⟨g, cap, cur, h1, h2, by rw [hb.block g (hC g (by rw [h1]; rfl))]; exact h3, h4⟩
theorem OwnE.after (h : OwnE E w B T v l) (hb : Below w.heap.size w w') : OwnE E w' B T v l := h.below hb fun k hk => (h.o.lt k hk).2
theorem OwnE.alloc (h : OwnE E w B T v l) (o : Obj) : OwnE E (w.alloc o) B T v l := ⟨h.o.alloc o⟩
theorem OwnE.setOther (h : OwnE E w B T v l) {a : Addr} (hne : v.ownBlock ≠ some a.block) (u : Value) : OwnE E (w.setCell a u) B T v l := by
  refine ⟨h.o.1, ?_⟩
  rcases h.o.2 with h1 | ⟨g, cap, cur, h1, h2, h3, h4⟩
  · exact .inl h1
  · refine .inr ⟨g, cap, cur, h1, h2, ?_, h4⟩
    rw [Below.heap_setCell _ _ _ _ (fun e => hne (by rw [h1, ← e]; rfl))]; exact h3
/-- A row that was laid. -/
theorem OwnE.lit (E : Enc α) (w : World) (T : TypeId) (l : List α) (cs : Array Value) (hc : cs.toList = E.all l) (hl : l.length ≤ maxLen) : OwnE E (w.alloc (.cells cs T)) w.heap.size T (.slice (some ⟨w.heap.size, 0, none⟩) l.length l.length) l := by
  have := World.ownsRow_lit (base := w.heap.size) (e := T) (size := E.k) w cs l.length (Nat.le_refl _) hl (by rw [← Array.length_toList, hc, E.all_len])
  rw [hc] at this
  exact ⟨this⟩
end
theorem append_block {P : Program} {S T : TypeId} {i : TypeInfo} {z : Value} {bytes : Nat} (E : Enc α) (hT : P.underlying S = some (.slice T)) (hi : P.info? T = some i) (hz : i.zero = some z) (hs : i.size = E.k) (hy : i.bytes = bytes)
    {w : World} {B : Nat} {v v' : Value} {w' : World} {l m : List α} (h : w.ownsRow B T E.k v l.length (E.all l)) (a : Addr) (c : Nat)
    (hnews : ∀ j u, (E.all m)[j]? = some u → w.cell? (a.add j) = some u) (hm0 : 0 < m.length) (hm : (l.length + m.length) * bytes ≤ 140737488355328) (hl : l.length + m.length ≤ 140737488355328)
    (h1 : (Builtin.append_ #[S, S] S #[v, .slice (some a) m.length c]).run P w = .ok v' w') : v'.ownBlock = v.ownBlock ∨ v'.ownBlock = some w.heap.size := by
  have hml : (E.all m).length = m.length * i.size := by rw [E.all_len, hs]
  rcases h.2 with ⟨rfl, h0⟩ | ⟨g, cap, cur, rfl, hb, hg, hnc, hcm, hcs, htake⟩
  · have hr := run_append_nil (P := P) w S S T i z hT hi hz a m.length c (E.all m) hml hnews hm0 (by omega) (by rw [hy]; have := Nat.mul_le_mul_right bytes (show m.length ≤ l.length + m.length by omega); omega)
    rw [hr] at h1
    have := congrArg (fun r => match r with | Result.ok v _ => v.ownBlock | _ => none) h1
    right
    simpa [Value.ownBlock] using this.symm
  · by_cases hroom : l.length + m.length ≤ cap
    · have hr := run_append_room (P := P) w S S T i hT hi g l.length cap cur hg a m.length c (E.all m) hml hnews (E.all_one m) hroom (by rw [hs, hcs, E.all_len, ← Nat.add_mul]; exact Nat.mul_le_mul_right _ hroom)
      rw [hr] at h1
      have := congrArg (fun r => match r with | Result.ok v _ => v.ownBlock | _ => none) h1
      left
      simpa [Value.ownBlock] using this.symm
    · have holds : ∀ j u, (E.all l)[j]? = some u → w.cell? ((⟨g, 0, none⟩ : Addr).add j) = some u := h.cells (g := g) rfl
      have hr := run_append_grow (P := P) w S S T i z hT hi hz ⟨g, 0, none⟩ l.length cap (E.all l) (by rw [hs, E.all_len]) holds a m.length c (E.all m) hml hnews (by omega) (by unfold maxLen at hcm; omega) (by rw [hy]; exact growslice_fits (by omega) hm)
      rw [hr] at h1
      have := congrArg (fun r => match r with | Result.ok v _ => v.ownBlock | _ => none) h1
      right
      simpa [Value.ownBlock] using this.symm
/-- One more; what stands in other blocks stays. -/
theorem OwnE.push {P : Program} {S T : TypeId} {i : TypeInfo} {z : Value} {bytes : Nat} {E : Enc α} (hT : P.underlying S = some (.slice T)) (hi : P.info? T = some i) (hz : i.zero = some z) (hs : i.size = E.k) (hy : i.bytes = bytes) (hzs : z.cells.size = E.k)
    {w : World} {B : Nat} {v : Value} {l : List α} (h : OwnE E w B T v l) (a : α) (cs : Array Value) (hcs : cs.toList = E.f a) (hB : B ≤ w.heap.size) (hm : (l.length + 1) * bytes ≤ 140737488355328) (hl : l.length + 1 ≤ 140737488355328) :
    ∃ v' w', (Builtin.append_ #[S, S] S #[v, .slice (some ⟨w.heap.size, 0, none⟩) 1 1]).run P (w.alloc (.cells cs T)) = .ok v' w' ∧ OwnE E w' B T v' (l ++ [a]) ∧ Below B w w' ∧ KeptBut v w w' ∧ (v'.ownBlock = v.ownBlock ∨ v'.ownBlock = some (w.heap.size + 1)) := by
  have hnews : ∀ j u, (E.all [a])[j]? = some u → (w.alloc (.cells cs T)).cell? ((⟨w.heap.size, 0, none⟩ : Addr).add j) = some u := fun j u hj => by
    rw [addr_at, World.cell?_alloc_mark, Nat.zero_add]
    rw [E.all_single, ← hcs] at hj
    simpa using hj
  obtain ⟨v', w', h1, h2, h3, h4⟩ := run_append_own (P := P) (w.alloc (.cells cs T)) B S S T i z E.k bytes hT hi hz hs hy hzs E.pos v l.length (E.all l) (h.o.alloc _) ⟨w.heap.size, 0, none⟩ 1 1 (E.all [a]) (by rw [E.all_len]; rfl) hnews
    (E.all_one _) (by unfold maxLen; omega) hm (by simp; omega)
  refine ⟨v', w', h1, ⟨by rw [List.length_append, E.all_append]; exact h2⟩, ((Below.refl B w).alloc hB _).grown h3 (by simp; omega) (fun k hk => (h.o.lt k hk).1), fun k hk hne => ?_, ?_⟩
  · rw [h3.block k (by simp; omega) (Ne.symm hne)]
    exact Below.heap_alloc w _ k hk
  · have := append_block E hT hi hz hs hy (m := [a]) (h.o.alloc (.cells cs T)) ⟨w.heap.size, 0, none⟩ 1 hnews (by simp) hm (by simpa using hl) h1
    simpa using this
/-- A list more. -/
theorem OwnE.pushAll {P : Program} {S T : TypeId} {i : TypeInfo} {z : Value} {bytes : Nat} {E : Enc α} (hT : P.underlying S = some (.slice T)) (hi : P.info? T = some i) (hz : i.zero = some z) (hs : i.size = E.k) (hy : i.bytes = bytes) (hzs : z.cells.size = E.k)
    {w : World} {B : Nat} {v u : Value} {l m : List α} (h : OwnE E w B T v l) (hu : ReadsE E w u m) (hB : B ≤ w.heap.size) (hm : (l.length + m.length) * bytes ≤ 140737488355328) (hl : l.length + m.length ≤ 140737488355328) :
    ∃ v' w', (Builtin.append_ #[S, S] S #[v, u]).run P w = .ok v' w' ∧ OwnE E w' B T v' (l ++ m) ∧ Below B w w' ∧ KeptBut v w w' ∧ (v' = .slice none 0 0 → v = .slice none 0 0) := by
  rcases hu with ⟨⟨a0, c0, rfl⟩, rfl⟩ | ⟨b, off, cap, rfl, hb, hc⟩
  · rcases h.o.2 with ⟨rfl, h0⟩ | ⟨g, cap, cur, rfl, hbg, hg, hnc, r⟩
    · exact ⟨_, w, run_append_nothing hT hi S none 0 0 (Nat.le_refl _) w, by rw [List.append_nil]; exact h, Below.refl _ _, fun _ _ _ => rfl, id⟩
    · exact ⟨_, w, run_append_nothing hT hi S (some ⟨g, 0, none⟩) l.length cap hnc w, by rw [List.append_nil]; exact h, Below.refl _ _, fun _ _ _ => rfl, id⟩
  · obtain ⟨v', w', h1, h2, h3, h4⟩ := run_append_own (P := P) w B S S T i z E.k bytes hT hi hz hs hy hzs E.pos v l.length (E.all l) h.o ⟨b, off, none⟩ m.length cap (E.all m) (E.all_len m)
      (fun j u hj => by rw [addr_at]; exact hc j u hj) (E.all_one m) (by unfold maxLen; omega) hm hB
    exact ⟨v', w', h1, ⟨by rw [List.length_append, E.all_append]; exact h2⟩, (Below.refl B w).grown h3 hB (fun k hk => (h.o.lt k hk).1), fun k hk hne => h3.block k hk (Ne.symm hne), fun e => (h4.1 e).1⟩
end Go.Proofs.Ytlbjfigdocbffaa
