/- Rows of elements of several cells: copy, clear, cut out, put in; for whatever program. -/
import Derived.Test.YtlbjfigdocbffaaSk
import Derived.Lib.AppendZeros
import Derived.Lib.Overlaps
import Derived.Lib.SliceRun
import Derived.Laws.CopyRow
import Derived.Laws.CopyOwn
namespace Go.Proofs.Ytlbjfigdocbffaa
open Go.RowKit
set_option linter.unusedVariables false
set_option linter.unusedSimpArgs false

/-- What stands in a row when cells were laid over it. -/
def overL (cur : List Value) (o : Nat) (news : List Value) : List Value := cur.take o ++ news ++ cur.drop (o + news.length)
theorem overL_length (cur : List Value) (o : Nat) (news : List Value) (h : o + news.length ≤ cur.length) : (overL cur o news).length = cur.length := by
  simp [overL]; omega
theorem rowk_copy {P : Program} {T elem : TypeId} {i : TypeInfo} (hu : P.underlying T = some (.slice elem)) (hi : P.info? elem = some i) (w : World) (g o dLen dCap : Nat) (cur : Array Value) (hg : w.heap[g]? = some (.cells cur elem (0, 0)))
    (a : Addr) (sLen sCap : Nat) (T' ty : TypeId) (n : Nat) (hn : Nat.min sLen dLen = n) (news : List Value) (hl : news.length = n * i.size) (hnews : ∀ j u, news[j]? = some u → w.cell? (a.add j) = some u) (h1 : ∀ u ∈ news, u.oneCell' = true) (hfit : o + news.length ≤ cur.size) :
    (Builtin.copy_ #[T, T'] ty #[.slice (some ⟨g, o, none⟩) dLen dCap, .slice (some a) sLen sCap]).run P w = .ok (goInt n) (w.setRow g (overL cur.toList o news).toArray) := by
  have hf := run_firstCells_some (P := P) w i.size n a sLen sCap news hl hnews
  have hst := run_storeCells_at P g o elem news 0 cur w hg (by simpa using hfit) h1
  simp only [Nat.add_zero] at hst
  simp [Builtin.copy_, run_underlying hu, sizeOf, typeInfo, hi, Builtin.lenOf, hn, hf, hst, overL]
theorem rowk_clear {P : Program} {T elem : TypeId} {i : TypeInfo} {z : Value} (hu : P.underlying T = some (.slice elem)) (hi : P.info? elem = some i) (hz : i.zero = some z) (w : World) (g o n c : Nat) (h0 : 0 < n) (cur : Array Value) (hg : w.heap[g]? = some (.cells cur elem (0, 0)))
    (zs : List Value) (hzs : (Builtin.zeroCells z.cells n).toList = zs) (h1 : ∀ u ∈ zs, u.oneCell' = true) (hfit : o + zs.length ≤ cur.size) (ty : TypeId) :
    (Builtin.clear_ #[T] ty #[.slice (some ⟨g, o, none⟩) n c]).run P w = .ok (.tuple #[]) (w.setRow g (overL cur.toList o zs).toArray) := by
  have hst := run_storeCells_at P g o elem zs 0 cur w hg (by simpa using hfit) h1
  simp only [Nat.add_zero] at hst
  cases n with
  | zero => omega
  | succ n => simp [Builtin.clear_, run_underlying hu, zeroValue, typeInfo, hi, hz, hzs, hst, overL]
theorem rowk_grow_zeros {P : Program} (w : World) (t tn ty e : TypeId) (i : TypeInfo) (z : Value) (k kn : IntKind) (ht : P.underlying t = some (.slice e)) (htn : P.underlying tn = some (.int kn)) (hi : P.info? e = some i) (hz : i.zero = some z)
    (b : Addr) (sLen sCap : Nat) (olds : List Value) (hlo : olds.length = sLen * i.size) (holds : ∀ j v, olds[j]? = some v → w.cell? (b.add j) = some v)
    (n : Nat) (h0 : 0 < n) (hs : 0 < i.size) (hg : sCap < sLen + n) (h63 : sLen + n ≤ 1000) (hb : i.bytes ≤ 1000) :
    (Builtin.append_ #[t, tn] ty #[.slice (some b) sLen sCap, .int k n]).run P w =
      .ok (.slice (some ⟨w.heap.size, 0, none⟩) (sLen + n) (grownCap w (sLen + n) sCap e)) (w.drew.alloc (.cells (olds.toArray ++ Builtin.zeroCells z.cells n ++ Builtin.zeroCells z.cells (grownCap w (sLen + n) sCap e - (sLen + n))) e)) := by
  have hn : n ≠ 0 := by omega
  have hw : IntKind.i64.wrap (n : Int) = n := by rw [IntKind.wrap_i64]; omega
  have h63' : ¬ (9223372036854775807 < ((sLen : Int) + (n : Int))) := by omega
  have hbb : (sLen + n) * i.bytes ≤ 1000 * 1000 := Nat.mul_le_mul h63 hb
  have h48' : ¬ (281474976710656 < Builtin.nextslicecap (sLen + n) sCap * i.bytes) := by
    have := growslice_fits (need := sLen + n) (old := sCap) (bytes := i.bytes) hg (by omega)
    omega
  have h48i : ¬ (281474976710656 < (n : Int) * (i.bytes : Int)) := by
    rw [← Int.natCast_mul]
    have : n * i.bytes ≤ (sLen + n) * i.bytes := Nat.mul_le_mul_right _ (by omega)
    omega
  have hneg : ¬ ((n : Int) < 0) := by omega
  have hns : ¬ (n * i.size = 0) := Nat.mul_ne_zero hn (by omega)
  have hgn : ¬ (sLen + n ≤ sCap) := by omega
  have hfo := run_firstCells_some (P := P) w.drew i.size sLen b sLen sCap olds hlo (by simpa using holds)
  simp [Builtin.append_, run_underlying ht, run_underlying htn, sizeOf, typeInfo, zeroValue, hi, hz, asInt, asIntOf, hw, hn, hneg, hns, hgn, h63', h48', h48i, Question.forced, hfo, newRow, grownCap]
theorem overL_take_le (cur : List Value) (o : Nat) (news : List Value) (k : Nat) (hk : k ≤ o) (ho : o ≤ cur.length) : (overL cur o news).take k = cur.take k := by
  have e : (cur.take o).length = o := by rw [List.length_take]; omega
  unfold overL
  rw [List.append_assoc, List.take_append_of_le_length (by omega), List.take_take, Nat.min_eq_left hk]
theorem overL_take_end (cur : List Value) (o : Nat) (news : List Value) (k : Nat) (hk : k = o + news.length) (ho : o ≤ cur.length) : (overL cur o news).take k = cur.take o ++ news := by
  have e : (cur.take o ++ news).length = k := by rw [List.length_append, List.length_take]; omega
  unfold overL
  rw [List.take_append_of_le_length (by omega), List.take_of_length_le (by omega)]
theorem overL_drop (cur : List Value) (o : Nat) (news : List Value) (ho : o ≤ cur.length) : (overL cur o news).drop o = news ++ cur.drop (o + news.length) := by
  have e : (cur.take o).length = o := by rw [List.length_take]; omega
  unfold overL
  rw [List.append_assoc, List.drop_append_of_le_length (by omega), List.drop_of_length_le (by omega), List.nil_append]
theorem overL_take_ge (cur : List Value) (o : Nat) (news : List Value) (k : Nat) (hk : o + news.length ≤ k) (ho : o ≤ cur.length) : (overL cur o news).take k = cur.take o ++ news ++ (cur.drop (o + news.length)).take (k - (o + news.length)) := by
  have e : (cur.take o ++ news).length = o + news.length := by rw [List.length_append, List.length_take]; omega
  unfold overL
  rw [List.take_append, e, List.take_of_length_le (by omega)]
section
variable {α : Type} {E : Enc α}
theorem OwnE.row {w : World} {B : Nat} {T : TypeId} {g n cap : Nat} {l : List α} (h : OwnE E w B T (.slice (some ⟨g, 0, none⟩) n cap) l) :
    n = l.length ∧ B ≤ g ∧ ∃ cur, w.heap[g]? = some (.cells cur T (0, 0)) ∧ l.length ≤ cap ∧ cap ≤ maxLen ∧ cur.size = cap * E.k ∧ cur.toList.take (l.length * E.k) = E.all l := by
  rcases h.o.2 with ⟨h1, _⟩ | ⟨g', cap', cur, h1, h2, h3, h4, h5, h6, h7⟩
  · cases h1
  · simp at h1
    obtain ⟨rfl, rfl, rfl⟩ := h1
    exact ⟨rfl, h2, cur, h3, h4, h5, h6, h7⟩
theorem OwnE.ofRow {w : World} {B : Nat} {T : TypeId} {g cap : Nat} {l : List α} {cur : Array Value} (hB : B ≤ g) (hg : w.heap[g]? = some (.cells cur T (0, 0))) (h1 : l.length ≤ cap) (h2 : cap ≤ maxLen) (h3 : cur.size = cap * E.k) (h4 : cur.toList.take (l.length * E.k) = E.all l) :
    OwnE E w B T (.slice (some ⟨g, 0, none⟩) l.length cap) l := ⟨E.all_len l, .inr ⟨g, cap, cur, rfl, hB, hg, h1, h2, h3, h4⟩⟩
theorem row_cell {w : World} {g : Nat} {cur : Array Value} {T : TypeId} {fr : Nat × Nat} (hg : w.heap[g]? = some (.cells cur T fr)) (j : Nat) : w.cell? ⟨g, j, none⟩ = cur[j]? := by simp [World.cell?, hg]
theorem take_of_prefix {cur : List Value} {m : Nat} {xs : List Value} (h : cur.take m = xs) (k : Nat) (hk : k ≤ m) : cur.take k = xs.take k := by
  rw [← h, List.take_take, Nat.min_eq_left hk]
theorem getElem_of_prefix {cur : List Value} {m : Nat} {xs : List Value} (h : cur.take m = xs) {j : Nat} {u : Value} (hu : xs[j]? = some u) : cur[j]? = some u := by
  rw [← h, List.getElem?_take] at hu
  split at hu
  · exact hu
  · cases hu
/-- One cut out: what stood behind it moved on, and the end was laid over. -/
theorem cut_out {cur : List Value} {l : List α} {i : Nat} (hi : i < l.length) (hc : l.length * E.k ≤ cur.length) (h : cur.take (l.length * E.k) = E.all l) (zs : List Value) (o : Nat) (ho : o = (i + (l.length - (i + 1))) * E.k) :
    (overL (overL cur (i * E.k) (E.all (l.drop (i + 1)))) o zs).take ((l.eraseIdx i).length * E.k) = E.all (l.eraseIdx i) := by
  have hik : (i + 1) * E.k ≤ l.length * E.k := Nat.mul_le_mul_right _ hi
  rw [Nat.succ_mul] at hik
  have e0 : (E.all (l.drop (i + 1))).length = (l.length - (i + 1)) * E.k := by rw [E.all_len, List.length_drop]
  have e1 : (l.eraseIdx i).length = i + (l.length - (i + 1)) := by rw [List.length_eraseIdx_of_lt hi]; omega
  have e2 : o ≤ l.length * E.k := by rw [ho]; exact Nat.mul_le_mul_right _ (by omega)
  have e3 : (overL cur (i * E.k) (E.all (l.drop (i + 1)))).length = cur.length := overL_length _ _ _ (by
    have : i * E.k + (l.length - (i + 1)) * E.k ≤ l.length * E.k := by rw [← Nat.add_mul]; exact Nat.mul_le_mul_right _ (by omega)
    omega)
  rw [e1, ← ho, overL_take_le _ _ _ _ (Nat.le_refl _) (by omega), overL_take_end _ _ _ _ (by rw [ho, e0, Nat.add_mul]) (by omega), take_of_prefix h _ (by omega), E.all_take, ← E.all_append, ← List.eraseIdx_eq_take_drop_succ]
/-- One put in, where there was room. -/
theorem put_room {cur : List Value} {l : List α} {i : Nat} (a : α) (hi : i < l.length) (hc : (l.length + 1) * E.k ≤ cur.length) (h : cur.take (l.length * E.k) = E.all l) :
    (overL (overL cur ((i + 1) * E.k) (E.all (l.drop i))) (i * E.k) (E.f a)).take ((l.take i ++ a :: l.drop i).length * E.k) = E.all (l.take i ++ a :: l.drop i) := by
  have hik : i * E.k ≤ l.length * E.k := Nat.mul_le_mul_right _ (Nat.le_of_lt hi)
  have hik1 : (i + 1) * E.k ≤ l.length * E.k := Nat.mul_le_mul_right _ hi
  have e0 : (E.all (l.drop i)).length = (l.length - i) * E.k := by rw [E.all_len, List.length_drop]
  have e1 : (l.take i ++ a :: l.drop i).length = l.length + 1 := by simp; omega
  have e4 : (i + 1) * E.k + (l.length - i) * E.k = (l.length + 1) * E.k := by rw [← Nat.add_mul]; congr 1; omega
  have e5 : (l.length + 1) * E.k = l.length * E.k + E.k := Nat.succ_mul _ _
  have e6 : (i + 1) * E.k = i * E.k + E.k := Nat.succ_mul _ _
  have e3 : (overL cur ((i + 1) * E.k) (E.all (l.drop i))).length = cur.length := overL_length _ _ _ (by omega)
  have e7 : ∀ Y, (E.all (l.drop i) ++ Y).take ((l.length + 1) * E.k - (i + 1) * E.k) = E.all (l.drop i) := fun Y => by
    rw [List.take_append_of_le_length (by omega), List.take_of_length_le (by omega)]
  rw [e1, overL_take_ge _ _ _ _ (by rw [E.len]; omega) (by omega), overL_take_le _ _ _ _ (by omega) (by omega), E.len, ← e6, overL_drop _ _ _ (by omega), e7,
    take_of_prefix h _ hik, E.all_take, E.all_append, E.all_cons, List.append_assoc]
/-- One put in, in a new row. -/
theorem put_grow {cur : List Value} {l : List α} {i : Nat} (a : α) (hi : i < l.length) (hc : (l.length + 1) * E.k ≤ cur.length) (h : cur.take (i * E.k) = E.all (l.take i)) :
    (overL (overL cur (i * E.k) (E.f a)) ((i + 1) * E.k) (E.all (l.drop i))).take ((l.take i ++ a :: l.drop i).length * E.k) = E.all (l.take i ++ a :: l.drop i) := by
  have e0 : (E.all (l.drop i)).length = (l.length - i) * E.k := by rw [E.all_len, List.length_drop]
  have e1 : (l.take i ++ a :: l.drop i).length = l.length + 1 := by simp; omega
  have e4 : (i + 1) * E.k + (l.length - i) * E.k = (l.length + 1) * E.k := by rw [← Nat.add_mul]; congr 1; omega
  have e6 : (i + 1) * E.k = i * E.k + E.k := Nat.succ_mul _ _
  have e3 : (overL cur (i * E.k) (E.f a)).length = cur.length := overL_length _ _ _ (by rw [E.len]; omega)
  rw [e1, overL_take_end _ _ _ _ (by omega) (by omega), overL_take_end _ _ _ _ (by rw [E.len, e6]) (by omega), h, E.all_append, E.all_cons, List.append_assoc]
end
end Go.Proofs.Ytlbjfigdocbffaa
