/- dir: places and copies. -/
import Derived.Test.YtfmgoamgcjipkaaDirWalk2
import Derived.Laws.Cover1
import Derived.Lib.SliceRun
import Derived.Test.YtfmgoamgcjipkaaRowOps
namespace Go.Proofs.Ytfmgoamgcjipkaa
open Go.RowKit
set_option linter.unusedVariables false
set_option linter.unusedSimpArgs false
open Dr

theorem toL_eq (s t : ByteArray) : (s.toList == t.toList) = decide (s = t) := by
  rw [Lib.toList_data, Lib.toList_data, Bool.eq_iff_iff, beq_iff_eq, decide_eq_true_eq]
  exact ⟨fun h => Go.WideShapes.bytes_inj h, fun h => by rw [h]⟩
def idxI (p : Vol → Bool) (l : List Vol) : Int := if l.findIdx p < l.length then ((l.findIdx p : Nat) : Int) else -1
theorem findI_idx (l : List Vol) (s : ByteArray) : findI l s = idxI (fun v => decide (v.n = s)) l := rfl
theorem idxI_here {p : Vol → Bool} {l : List Vol} {k : Nat} (hk : k < l.length) (h : p (at_ l k) = true) (hb : ∀ j, j < k → p (at_ l j) = false) : idxI p l = (k : Int) := by
  unfold idxI; rw [idx_of hk h hb, if_pos hk]
theorem idxI_none {p : Vol → Bool} {l : List Vol} (hb : ∀ j, j < l.length → p (at_ l j) = false) : idxI p l = -1 := by
  unfold idxI; rw [idx_none hb, if_neg (Nat.lt_irrefl _)]
/-- A box that holds a volume. -/
structure VolAt (w : World) (b : Nat) (x : Vol) : Prop where
  c0 : w.cell? ⟨b, 0, none⟩ = some (.string x.n)
  c1 : w.cell? ⟨b, 1, none⟩ = some (.int .i64 x.s)
  c2 : w.cell? ⟨b, 2, none⟩ = some (.int .i64 x.r)
  lt : b < w.heap.size
theorem VolAt.below {w w' : World} {B b : Nat} {x : Vol} (h : VolAt w b x) (hb : Below B w w') (hB : b < B) : VolAt w' b x :=
  ⟨by rw [hb.cell (p := ⟨b, 0, none⟩) hB]; exact h.c0, by rw [hb.cell (p := ⟨b, 1, none⟩) hB]; exact h.c1, by rw [hb.cell (p := ⟨b, 2, none⟩) hB]; exact h.c2, Nat.lt_of_lt_of_le h.lt hb.size⟩
theorem VolAt.made (w : World) (x : Vol) (T : TypeId) : VolAt (w.alloc (.cells #[.string x.n, .int .i64 x.s, .int .i64 x.r] T)) w.heap.size x :=
  ⟨by rw [World.cell?_alloc_mark]; rfl, by rw [World.cell?_alloc_mark]; rfl, by rw [World.cell?_alloc_mark]; rfl, by simp⟩
theorem find1_any (x : Vol) (s : ByteArray) (p : Nat) (w : World) (h : w.cell? ⟨p, 0, none⟩ = some (.string s)) (hp : p < w.heap.size) : Calls Try.prog 48 #[x.v, .pointer (some ⟨p, 0, none⟩)] w (Tells w (.bool (decide (x.n = s)))) := by
  have hbox : Below w.heap.size w (w.alloc (.cells #[.string x.n, .int .i64 x.s, .int .i64 x.r] 24)) := (Below.refl _ _).alloc (Nat.le_refl _) _
  have h2 : (w.alloc (.cells #[.string x.n, .int .i64 x.s, .int .i64 x.r] 24)).cell? ⟨p, 0, none⟩ = some (.string s) := by rw [hbox.cell (p := ⟨p, 0, none⟩) hp]; exact h
  have he := toL_eq x.n s
  unfold Vol.v
  generalize decide (x.n = s) = d at *
  have heH := Lib.hid he
  clear he h
  go_enter Try.func48, Try.ntmps48
  go_wp2
  go_ret
  exact ⟨by rw [← heH.out]; rfl, hbox⟩
theorem gt_lt (a b : ByteArray) : (!(Op.bytesLess a.toList b.toList || a.toList == b.toList)) = lt b a := by rw [le_eq, Bool.not_not]
theorem add1_any (x y : Vol) (p : Nat) (w : World) (h : VolAt w p y) : Calls Try.prog 31 #[x.v, .pointer (some ⟨p, 0, none⟩)] w (Tells w (.bool (lt y.n x.n))) := by
  have hbox : Below w.heap.size w (w.alloc (.cells #[.string x.n, .int .i64 x.s, .int .i64 x.r] 24)) := (Below.refl _ _).alloc (Nat.le_refl _) _
  have h2 := (h.below hbox h.lt).c0
  have hp := h.lt
  have he := Lib.hid (show (!Op.bytesLess x.n.toList y.n.toList && !x.n.toList == y.n.toList) = lt y.n x.n by rw [← Bool.not_or, gt_lt])
  unfold Vol.v
  clear h
  generalize lt y.n x.n = d at *
  go_enter Try.func31, Try.ntmps31
  go_wp2
  go_ret
  exact ⟨by rw [← he.out]; rfl, hbox⟩
set_option maxRecDepth 100000 in
set_option maxHeartbeats 4000000 in
theorem idx_find (v : Value) (l : List Vol) (w : World) (hR : ReadsE volE w v l) (hl : l.length ≤ 140737488355328) (s : ByteArray) (p : Nat) (h : w.cell? ⟨p, 0, none⟩ = some (.string s)) (hp : p < w.heap.size) : Calls Try.prog 30 #[v, .func (.func 48) #[] #[.pointer (some ⟨p, 0, none⟩)]] w (Tells w (.int .i64 (idxI (fun x => decide (x.n = s)) l))) := by
  obtain ⟨a, cap, rfl, cl⟩ := items3 hR
  clear hR
  have c1 : ∀ (x : Vol) (W : World), Below w.heap.size w W → Calls Try.prog 48 #[x.v, .pointer (some ⟨p, 0, none⟩)] W (Tells W (.bool ((fun x => decide (x.n = s)) x))) := fun x W hW => find1_any x s p W (by rw [hW.cell (p := ⟨p, 0, none⟩) hp]; exact h) (Nat.lt_of_lt_of_le hp hW.size)
  obtain ⟨P, hP⟩ : ∃ P : Vol → Bool, (fun x => decide (x.n = s)) = P := ⟨_, rfl⟩
  have c1 : ∀ (x : Vol) (W : World), Below w.heap.size w W → Calls Try.prog 48 #[.agg #[.string x.n, .int .i64 x.s, .int .i64 x.r], .pointer (some ⟨p, 0, none⟩)] W (Tells W (.bool (P x))) := by rw [← hP]; exact c1
  rw [hP]
  clear hP
  go_enter Try.func30, Try.ntmps30
  go_wp2
  go_loopw [8] (fun i wr => ∃ k : Nat, k ≤ l.length ∧ i = .int .i64 (k : Int) ∧ (∀ j, j < k → P (at_ l j) = false) ∧ Below w.heap.size w wr) (fun i _ => l.length - (intOf i).toNat)
  case atStart => exact ⟨0, by omega, rfl, (fun j hj => absurd hj (Nat.not_lt_zero _)), Below.refl _ _⟩
  case round =>
    obtain ⟨k, hk, rfl, hc, hB⟩ := hrel
    rename World => wr
    have hBs := hB.size
    by_cases hlt : k < l.length
    · have x1 : (k : Int) < (l.length : Int) := by omega
      obtain ⟨cb, co, rfl, hcb, hcl⟩ := cl k hlt
      obtain ⟨d0, d1, d2⟩ := hcl wr hB
      have hcall := c1 (at_ l k) wr hB
      have hhere : P (at_ l k) = true → Hid (idxI P l = (k : Int)) := fun h => Lib.hid (idxI_here hlt h hc)
      have hnext : P (at_ l k) = false → ∀ j, j < k + 1 → P (at_ l j) = false := fun h j hj => by
        rcases Nat.lt_succ_iff_lt_or_eq.1 hj with h1 | rfl
        · exact hc j h1
        · exact h
      cases hb : P (at_ l k) with
      | true =>
        have hz := hhere hb
        rw [hb] at hcall
        clear hhere hnext hc
        go_wp2_with (go_at_call 48; ((with_reducible refine hcall.mono ?_); rintro e w3 ⟨rfl, b3⟩))
        go_ret
        exact ⟨by rw [hz.out]; rfl, below_c hB b3⟩
      | false =>
        have hz := hnext hb
        rw [hb] at hcall
        clear hhere hnext hc
        go_wp2_with (go_at_call 48; ((with_reducible refine hcall.mono ?_); rintro e w3 ⟨rfl, b3⟩))
        go_roundw
        case rel => exact ⟨k + 1, by omega, by go_num, hz, below_c hB b3⟩
        case measure => simp [intOf]; omega
    · have x1 : ¬ ((k : Int) < (l.length : Int)) := by omega
      obtain rfl : k = l.length := by omega
      have hz : Hid (idxI P l = -1) := Lib.hid (idxI_none hc)
      clear hc
      go_wp2_with (fail)
      go_ret
      exact ⟨by rw [hz.out]; rfl, hB⟩
set_option maxRecDepth 100000 in
set_option maxHeartbeats 4000000 in
theorem idx_add (v : Value) (l : List Vol) (w : World) (hR : ReadsE volE w v l) (hl : l.length ≤ 140737488355328) (y : Vol) (p : Nat) (h : VolAt w p y) : Calls Try.prog 30 #[v, .func (.func 31) #[] #[.pointer (some ⟨p, 0, none⟩)]] w (Tells w (.int .i64 (idxI (fun x => lt y.n x.n) l))) := by
  obtain ⟨a, cap, rfl, cl⟩ := items3 hR
  clear hR
  have c1 : ∀ (x : Vol) (W : World), Below w.heap.size w W → Calls Try.prog 31 #[x.v, .pointer (some ⟨p, 0, none⟩)] W (Tells W (.bool ((fun x => lt y.n x.n) x))) := fun x W hW => add1_any x y p W (h.below hW h.lt)
  obtain ⟨P, hP⟩ : ∃ P : Vol → Bool, (fun x => lt y.n x.n) = P := ⟨_, rfl⟩
  have c1 : ∀ (x : Vol) (W : World), Below w.heap.size w W → Calls Try.prog 31 #[.agg #[.string x.n, .int .i64 x.s, .int .i64 x.r], .pointer (some ⟨p, 0, none⟩)] W (Tells W (.bool (P x))) := by rw [← hP]; exact c1
  rw [hP]
  clear hP
  go_enter Try.func30, Try.ntmps30
  go_wp2
  go_loopw [8] (fun i wr => ∃ k : Nat, k ≤ l.length ∧ i = .int .i64 (k : Int) ∧ (∀ j, j < k → P (at_ l j) = false) ∧ Below w.heap.size w wr) (fun i _ => l.length - (intOf i).toNat)
  case atStart => exact ⟨0, by omega, rfl, (fun j hj => absurd hj (Nat.not_lt_zero _)), Below.refl _ _⟩
  case round =>
    obtain ⟨k, hk, rfl, hc, hB⟩ := hrel
    rename World => wr
    have hBs := hB.size
    by_cases hlt : k < l.length
    · have x1 : (k : Int) < (l.length : Int) := by omega
      obtain ⟨cb, co, rfl, hcb, hcl⟩ := cl k hlt
      obtain ⟨d0, d1, d2⟩ := hcl wr hB
      have hcall := c1 (at_ l k) wr hB
      have hhere : P (at_ l k) = true → Hid (idxI P l = (k : Int)) := fun h => Lib.hid (idxI_here hlt h hc)
      have hnext : P (at_ l k) = false → ∀ j, j < k + 1 → P (at_ l j) = false := fun h j hj => by
        rcases Nat.lt_succ_iff_lt_or_eq.1 hj with h1 | rfl
        · exact hc j h1
        · exact h
      cases hb : P (at_ l k) with
      | true =>
        have hz := hhere hb
        rw [hb] at hcall
        clear hhere hnext hc
        go_wp2_with (go_at_call 31; ((with_reducible refine hcall.mono ?_); rintro e w3 ⟨rfl, b3⟩))
        go_ret
        exact ⟨by rw [hz.out]; rfl, below_c hB b3⟩
      | false =>
        have hz := hnext hb
        rw [hb] at hcall
        clear hhere hnext hc
        go_wp2_with (go_at_call 31; ((with_reducible refine hcall.mono ?_); rintro e w3 ⟨rfl, b3⟩))
        go_roundw
        case rel => exact ⟨k + 1, by omega, by go_num, hz, below_c hB b3⟩
        case measure => simp [intOf]; omega
    · have x1 : ¬ ((k : Int) < (l.length : Int)) := by omega
      obtain rfl : k = l.length := by omega
      have hz : Hid (idxI P l = -1) := Lib.hid (idxI_none hc)
      clear hc
      go_wp2_with (fail)
      go_ret
      exact ⟨by rw [hz.out]; rfl, hB⟩
theorem find_any (v : Value) (l : List Vol) (s : ByteArray) (w : World) (hR : ReadsE volE w v l) (hl : l.length ≤ 140737488355328) : Calls Try.prog 24 #[v, .string s] w (Tells w (.int .i64 (findI l s))) := by
  have hbox : Below w.heap.size w (w.alloc (.cells #[.string s] 9)) := (Below.refl _ _).alloc (Nat.le_refl _) _
  have c1 := idx_find v l _ (hR.below hbox) hl s w.heap.size (by rw [World.cell?_alloc_mark]; rfl) (by simp)
  rw [← findI_idx] at c1
  clear hR
  generalize findI l s = r at *
  go_enter Try.func24, Try.ntmps24
  go_wp2_with (fail)
  refine c1.mono ?_
  rintro e w1 ⟨rfl, b1⟩
  go_wp2_with (fail)
  go_ret
  exact ⟨rfl, below_c hbox b1⟩
def GivesV (w : World) (l : List Vol) (e : Ending) (w' : World) : Prop := ∃ v, e = .returned v ∧ OwnE volE w' w.heap.size 24 v l ∧ Below w.heap.size w w'
def GivesVE (w : World) (l : List Vol) (n : Int) (e : Ending) (w' : World) : Prop := ∃ v, e = .returned (.tuple #[v, .int .i64 n]) ∧ OwnE volE w' w.heap.size 24 v l ∧ Below w.heap.size w w'
theorem vol_sizes : ∃ i, Try.prog.info? 24 = some i ∧ i.zero = some noVol.v ∧ i.size = 3 ∧ i.bytes = 32 := by
  exact info_parts (by kernel_rfl)
set_option maxRecDepth 100000 in
theorem clone_any (v : Value) (l : List Vol) (w : World) (hR : ReadsE volE w v l) (hl : l.length ≤ 1000) : Calls Try.prog 33 #[v] w (GivesV w l) := by
  obtain ⟨i, hi, hz0, hz1, hz2⟩ := vol_sizes
  rcases hR with ⟨rfl, rfl⟩ | ⟨b, off, cap, rfl, hb, hc⟩
  · have hnil : ∀ W, (binOp .eql 22 (.slice none 0 0) (.slice none 0 0)).run Try.prog W = .ok (.bool true) W := fun W => Lib.run_eql_slice_nil W _ _ none 0 0 0 0 Try.underlying22
    go_enter Try.func33, Try.ntmps33
    go_wp2
    go_ret
    exact ⟨_, rfl, OwnE.nil _ _ _ _, Below.refl _ _⟩
  · have hR : ReadsE volE w (.slice (some ⟨b, off, none⟩) l.length cap) l := .inr ⟨b, off, cap, rfl, hb, hc⟩
    have hbox : Below w.heap.size w (w.alloc (.cells #[] 24)) := (Below.refl _ _).alloc (Nat.le_refl _) _
    have o1 := OwnE.lit volE w 24 [] #[] rfl (Nat.zero_le _)
    obtain ⟨v', w', h1, h2, h3, h4, _⟩ := OwnE.pushAll (P := Try.prog) (S := 22) Try.underlying22 hi hz0 hz1 hz2 rfl o1 (hR.below hbox) (by simp) (by simp; omega) (by simp; omega)
    rw [List.nil_append] at h2
    clear hR hc o1
    have hnil : ∀ W, (binOp .eql 22 (.slice (some ⟨b, off, none⟩) l.length cap) (.slice none 0 0)).run Try.prog W = .ok (.bool false) W := fun W => Lib.run_eql_slice_nil W _ _ (some ⟨b, off, none⟩) l.length cap 0 0 Try.underlying22
    go_enter Try.func33, Try.ntmps33
    go_wp2_with (at_builtin; refine wpList_append_run h1 _ _ rfl rfl rfl rfl rfl ?_)
    go_ret
    exact ⟨v', rfl, h2, hbox.trans h3⟩
end Go.Proofs.Ytfmgoamgcjipkaa
