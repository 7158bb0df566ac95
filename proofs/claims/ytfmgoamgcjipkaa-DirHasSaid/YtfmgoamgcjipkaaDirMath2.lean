/- dir: what is added, changed, removed, and undone; plain. -/
import Derived.Test.YtfmgoamgcjipkaaDirFit
namespace Go.Proofs.Ytfmgoamgcjipkaa
open Go.RowKit
set_option linter.unusedVariables false
set_option linter.unusedSimpArgs false
open Dr

section
variable {l m : List Vol} {v : Vol} {i : Nat}
theorem right_parts (h : rightB 200 l = true) : l.length ≤ 8 ∧ (∀ v ∈ l, volB 200 v = true) ∧ Rises l := by
  obtain ⟨⟨_, _, h1⟩, h2, h3⟩ := (rightB_iff 200 l).1 h; exact ⟨h1, h2, h3⟩
theorem right_of (h1 : l.length ≤ 8) (h2 : ∀ v ∈ l, volB 200 v = true) (h3 : Rises l) : rightB 200 l = true := (rightB_iff 200 l).2 ⟨⟨by decide, by decide, h1⟩, h2, h3⟩
theorem right_vols (h : rightB 200 l = true) : VolsOk l := fun i hi => by
  rw [at_get hi]
  have := (volB_lim (by decide) ((right_parts h).2.1 _ (List.getElem_mem hi))).1
  omega
theorem rises_names (e : l.map Vol.n = m.map Vol.n) (h : Rises l) : Rises m := by
  have a : (l.map Vol.n).Pairwise fun a b => lt a b = true := List.pairwise_map.2 h
  rw [e] at a
  exact List.pairwise_map.1 a
theorem names_nodup (h : Rises l) : (l.map Vol.n).Nodup := List.pairwise_map.2 (h.imp fun hab => lt_ne hab)
theorem volB_vol (h : rightB 200 l = true) (hi : i < l.length) : volB 200 (at_ l i) = true := by rw [at_get hi]; exact (right_parts h).2.1 _ (List.getElem_mem hi)
theorem name_vol (h : rightB 200 l = true) (hi : i < l.length) : nameB (at_ l i).n = true := by
  have := volB_vol h hi
  unfold volB at this
  rw [Bool.and_eq_true] at this; exact this.1
theorem set_right (h : rightB 200 l = true) (hi : i < l.length) (hn : v.n = (at_ l i).n) (hv : volB 200 v = true) : rightB 200 (l.set i v) = true := by
  obtain ⟨h1, h2, h3⟩ := right_parts h
  refine right_of (by rw [List.length_set]; exact h1) (fun x hx => ?_) (rises_names ?_ h3)
  · rcases List.mem_or_eq_of_mem_set hx with hx | rfl
    · exact h2 x hx
    · exact hv
  · rw [List.map_set, hn, at_get hi]
    apply List.ext_getElem?
    intro j
    rw [List.getElem?_set]
    by_cases e : i = j
    · subst e; simp [hi]
    · simp [e]
theorem at_set (hi : i < l.length) : at_ (l.set i v) i = v := by rw [at_get (by rw [List.length_set]; exact hi)]; simp
theorem at_set_ne {j : Nat} (hj : j < l.length) (hne : j ≠ i) : at_ (l.set i v) j = at_ l j := by
  rw [at_get (by rw [List.length_set]; exact hj), at_get hj, List.getElem_set_ne (Ne.symm hne)]
theorem set_back (hi : i < l.length) : (l.set i v).set i (at_ l i) = l := by rw [List.set_set, at_get hi]; simp
theorem find_at (h : rightB 200 l = true) (hi : i < l.length) : findN l (at_ l i).n = i := find_here (right_parts h).2.2 hi
theorem find_set (h : rightB 200 l = true) (hi : i < l.length) (hn : v.n = (at_ l i).n) (hv : volB 200 v = true) : findN (l.set i v) v.n = i := by
  have := find_at (set_right h hi hn hv) (i := i) (by rw [List.length_set]; exact hi)
  rwa [at_set hi] at this
theorem erase_perm (hi : i < l.length) : (at_ l i :: l.eraseIdx i).Perm l := by
  have := List.perm_middle (a := l[i]) (l₁ := l.take i) (l₂ := l.drop (i + 1))
  rw [← List.drop_eq_getElem_cons hi, List.take_append_drop] at this
  rw [at_get hi, List.eraseIdx_eq_take_drop_succ]
  exact this.symm
theorem erase_rises (h : Rises l) : Rises (l.eraseIdx i) := h.sublist (List.eraseIdx_sublist _ _)
theorem erase_right (h : rightB 200 l = true) (hi : i < l.length) : rightB 200 (l.eraseIdx i) = true := by
  obtain ⟨h1, h2, h3⟩ := right_parts h
  exact right_of (by rw [List.length_eraseIdx_of_lt hi]; omega) (fun x hx => h2 x (List.mem_of_mem_eraseIdx hx)) (erase_rises h3)
theorem erase_ne (h : Rises l) (hi : i < l.length) : ∀ x ∈ l.eraseIdx i, x.n ≠ (at_ l i).n := by
  have hd : ((at_ l i :: l.eraseIdx i).map Vol.n).Nodup := ((erase_perm hi).map Vol.n).nodup_iff.2 (names_nodup h)
  rw [List.map_cons, List.nodup_cons] at hd
  intro x hx e
  exact hd.1 (by rw [← e]; exact List.mem_map.2 ⟨x, hx, rfl⟩)
theorem erase_none (h : Rises l) (hi : i < l.length) : findN (l.eraseIdx i) (at_ l i).n = (l.eraseIdx i).length := findN_none (erase_ne h hi)
theorem erase_add (h : Rises l) (hi : i < l.length) : insL (l.eraseIdx i) (at_ l i) = l := by
  rw [ins_eq]
  exact rises_perm (ins_rises (erase_rises h) (erase_ne h hi)) h ((ins_perm _ _).trans (erase_perm hi))
theorem add_rises (h : Rises l) (hno : findN l v.n = l.length) : Rises (insL l v) := by
  rw [ins_eq]; exact ins_rises h (findN_mem hno)
theorem add_right (h : rightB 200 l = true) (hv : volB 200 v = true) (hno : findN l v.n = l.length) (h8 : l.length < 8) : rightB 200 (insL l v) = true := by
  obtain ⟨h1, h2, h3⟩ := right_parts h
  refine right_of (by rw [ins_eq, ins_len]; omega) (fun x hx => ?_) (add_rises h3 hno)
  rw [ins_eq] at hx
  rcases (ins_mem l v x).1 hx with rfl | hx
  · exact hv
  · exact h2 x hx
theorem find_mem (h : Rises m) {x : Vol} (hx : x ∈ m) : findN m x.n < m.length ∧ at_ m (findN m x.n) = x := by
  obtain ⟨j, hj, rfl⟩ := List.getElem_of_mem hx
  rw [← at_get hj, find_here h hj]
  exact ⟨hj, rfl⟩
theorem in_ins_new : v ∈ insL l v := by rw [ins_eq]; exact (ins_mem l v v).2 (.inl rfl)
theorem in_ins_old (hi : i < l.length) : at_ l i ∈ insL l v := by rw [ins_eq]; exact (ins_mem l v _).2 (.inr (by rw [at_get hi]; exact List.getElem_mem hi))
theorem add_rem (h : Rises l) (hno : findN l v.n = l.length) : (insL l v).eraseIdx (findN (insL l v) v.n) = l := by
  have hr := add_rises h hno
  obtain ⟨h1, h2⟩ := find_mem hr (in_ins_new (l := l) (v := v))
  have hp := erase_perm h1
  rw [h2] at hp
  refine rises_perm (erase_rises hr) h ((List.perm_cons v).1 (hp.trans ?_))
  rw [ins_eq]; exact ins_perm l v
theorem ins_length : (insL l v).length = l.length + 1 := by rw [ins_eq, ins_len]
/-- What is put one by one. -/
structure Putting (l out rest : List Vol) : Prop where
  p : (out ++ rest).Perm l
  r : Rises out
theorem Putting.start (h : Rises l) : Putting l [] l := ⟨List.Perm.refl _, List.Pairwise.nil⟩
theorem Putting.fin {out : List Vol} (h : Putting l out []) (hl : Rises l) : out = l := rises_perm h.r hl (by have := h.p; rwa [List.append_nil] at this)
theorem Putting.no {out rest : List Vol} (h : Putting l out rest) (hl : Rises l) (hi : i < rest.length) : ∀ x ∈ out, x.n ≠ (at_ rest i).n := by
  have hd : ((out ++ rest).map Vol.n).Nodup := (h.p.map Vol.n).nodup_iff.2 (names_nodup hl)
  rw [List.map_append] at hd
  have := (List.nodup_append.1 hd).2.2
  intro x hx e
  exact this x.n (List.mem_map.2 ⟨x, hx, rfl⟩) (at_ rest i).n (List.mem_map.2 ⟨at_ rest i, by rw [at_get hi]; exact List.getElem_mem hi, rfl⟩) e
theorem Putting.step {out rest : List Vol} (h : Putting l out rest) (hl : Rises l) (hi : i < rest.length) : Putting l (insL out (at_ rest i)) (rest.eraseIdx i) := by
  refine ⟨?_, ?_⟩
  · rw [ins_eq]
    refine ((ins_perm out (at_ rest i)).append_right _).trans ?_
    refine List.Perm.trans ?_ h.p
    rw [List.cons_append]
    refine (List.perm_middle.symm).trans ?_
    exact (erase_perm hi).append_left out
  · rw [ins_eq]; exact ins_rises h.r (h.no hl hi)
theorem Putting.in {out rest : List Vol} (h : Putting l out rest) (hi : i < rest.length) : at_ rest i ∈ l := by
  refine h.p.subset (List.mem_append.2 (.inr ?_))
  rw [at_get hi]; exact List.getElem_mem hi
theorem Putting.len {out rest : List Vol} (h : Putting l out rest) : out.length + rest.length = l.length := by have := h.p.length_eq; simpa using this
end
end Go.Proofs.Ytfmgoamgcjipkaa
