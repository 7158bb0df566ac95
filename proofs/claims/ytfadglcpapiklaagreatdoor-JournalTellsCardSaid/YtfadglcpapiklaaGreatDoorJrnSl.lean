/- journal: a list of slots less some of them. -/
import Derived.Test.YtfadglcpapiklaaGreatDoorJrnLst
import Derived.Test.YtfadglcpapiklaaGreatDoorShelf
namespace Go.Proofs.YtfadglcpapiklaaGreatDoor
open Go.RowKit
set_option linter.unusedVariables false
set_option linter.unusedSimpArgs false
set_option maxRecDepth 100000

def GivesIs (w : World) (l : List Int) (e : Ending) (w' : World) : Prop := ∃ v, e = .returned v ∧ Own w' w.heap.size 3 v (l.map (.int .i64)) ∧ Below w.heap.size w w'
theorem iclone_any (v : Value) (l : List Int) (w : World) (hR : Reads w v (l.map (.int .i64))) (hl : l.length ≤ 1000) : Calls Tryz.prog 90 #[v] w (GivesIs w l) := by
  rcases hR with ⟨⟨a, c, rfl⟩, h2⟩ | ⟨b, off, cap, rfl, h1, h2⟩
  · obtain rfl : l = [] := by simpa using h2
    rcases a with _ | a
    · exact (Tryz.slices_Clone_int_nil 0 c w).mono fun e w' h => ⟨_, h.1, Own.nil _ _ _, by rw [h.2]; exact Below.refl _ _⟩
    · refine (Tryz.slices_Clone_int_zero a c w).mono fun e w' h => ?_
      obtain ⟨v', e1, o1, _, b1⟩ := h
      exact ⟨v', e1, ⟨o1⟩, b1⟩
  · rw [List.length_map] at h2 ⊢
    refine (Tryz.slices_Clone_int b off l.length cap l w (Nat.le_refl _) (by omega) (fun j hj => ?_)).mono fun e w' h => ?_
    · rw [h2 j hj]; simp [List.getD_eq_getElem?_getD, hj]
    · obtain ⟨v', e1, o1, _, b1⟩ := h
      exact ⟨v', e1, ⟨by rw [List.length_map]; rwa [List.take_of_length_le (Nat.le_refl _)] at o1⟩, b1⟩
/-- Those of a list that are not in another one. -/
def keepL (l s : List Int) : List Int := l.filter fun x => !decide (x ∈ s)
theorem wdel_any (sb : Nat) (vs : Value) (s : List Int) (x : Int) (W : World) (hc : W.cell? ⟨sb, 0, none⟩ = some vs) (hv : Reads W vs (s.map (.int .i64))) (hl : s.length ≤ 1000000) :
    Calls Tryz.prog 91 #[.int .i64 x, .pointer (some ⟨sb, 0, none⟩)] W fun e w' => e = .returned (.bool (decide (x ∈ s))) ∧ W = w' := by
  have cC := contains_int vs s W hv x hl
  obtain ⟨a, c, hf⟩ := hv.form
  rw [List.length_map] at hf
  subst hf
  go_enter Tryz.func91, Tryz.ntmps91
  go_wp2_with (fail)
  refine cC.mono ?_
  rintro e w2 ⟨rfl, rfl⟩
  go_wp2_with (fail)
  go_ret
  exact ⟨rfl, rfl⟩
/-- Where the first is that is left out. -/
theorem windex_none (sb : Nat) (vs : Value) (s : List Int) (v : Value) (xs : List Int) (W : World) (hc : W.cell? ⟨sb, 0, none⟩ = some vs) (hv : Reads W vs (s.map (.int .i64))) (hx : Reads W v (xs.map (.int .i64))) (hl : s.length ≤ 1000000) (hn : xs.length ≤ 1000000) (hd : ∀ x ∈ xs, x ∉ s) :
    Calls Tryz.prog 123 #[v, .func (.func 91) #[] #[.pointer (some ⟨sb, 0, none⟩)]] W fun e w' => e = .returned (.int .i64 (-1)) ∧ W = w' := by
  have cD := fun x => wdel_any sb vs s x W hc hv hl
  obtain ⟨va, vc, rfl, hit⟩ := Reads.items hx
  clear hx hc hv
  go_enter Tryz.func123, Tryz.ntmps123
  go_wp2_with (fail)
  go_loopw [5, 8] (fun _ t wr => ∃ i : Nat, i ≤ xs.length ∧ t = .int .i64 (i : Int) ∧ W = wr) (fun _ t _ => xs.length - (RowKit.intOf t).toNat)
  case atStart => exact ⟨0, Nat.zero_le _, rfl, rfl⟩
  case round =>
    obtain ⟨i, hi, rfl, rfl⟩ := hrel
    by_cases hlt : i < xs.length
    · have y1 : (i : Int) < (xs.length : Int) := by omega
      obtain ⟨cb, co, rfl, _, hcell⟩ := hit i hlt
      have hm := hd _ (List.getElem_mem hlt)
      obtain ⟨x, hxe⟩ : ∃ x, xs[i] = x := ⟨_, rfl⟩
      rw [hxe] at hcell hm
      have cx := cD x
      rw [decide_eq_false hm] at cx
      clear cD hxe hm hit hd
      go_wp2_with (fail)
      refine cx.mono ?_
      rintro e w2 ⟨rfl, rfl⟩
      go_wp2_with (fail)
      go_roundw
      case rel => exact ⟨i + 1, by omega, by go_num, trivial⟩
      case measure => simp [RowKit.intOf]; omega
    · obtain rfl : i = xs.length := by omega
      have y1 : ¬ ((xs.length : Int) < (xs.length : Int)) := by omega
      clear cD hit hd
      go_wp2_with (fail)
      go_ret
      exact ⟨rfl, rfl⟩
theorem windex_some (sb : Nat) (vs : Value) (s : List Int) (v : Value) (xs : List Int) (W : World) (hc : W.cell? ⟨sb, 0, none⟩ = some vs) (hv : Reads W vs (s.map (.int .i64))) (hx : Reads W v (xs.map (.int .i64))) (hl : s.length ≤ 1000000) (hn : xs.length ≤ 1000000) (k : Nat) (hk : k < xs.length) (hd : ∀ j (hj : j < xs.length), j < k → xs[j] ∉ s) (hy : xs[k] ∈ s) :
    Calls Tryz.prog 123 #[v, .func (.func 91) #[] #[.pointer (some ⟨sb, 0, none⟩)]] W fun e w' => e = .returned (.int .i64 (k : Int)) ∧ W = w' := by
  have cD := fun x => wdel_any sb vs s x W hc hv hl
  obtain ⟨va, vc, rfl, hit⟩ := Reads.items hx
  clear hx hc hv
  go_enter Tryz.func123, Tryz.ntmps123
  go_wp2_with (fail)
  go_loopw [5, 8] (fun _ t wr => ∃ i : Nat, i ≤ k ∧ t = .int .i64 (i : Int) ∧ W = wr) (fun _ t _ => xs.length - (RowKit.intOf t).toNat)
  case atStart => exact ⟨0, Nat.zero_le _, rfl, rfl⟩
  case round =>
    obtain ⟨i, hi, rfl, rfl⟩ := hrel
    have hlt : i < xs.length := by omega
    have y1 : (i : Int) < (xs.length : Int) := by omega
    obtain ⟨cb, co, rfl, _, hcell⟩ := hit i hlt
    by_cases he : i = k
    · subst he
      have cx := cD xs[i]
      rw [decide_eq_true hy] at cx
      obtain ⟨x, hxe⟩ : ∃ x, xs[i] = x := ⟨_, rfl⟩
      rw [hxe] at hcell cx
      clear cD hxe hy hit hd
      go_wp2_with (fail)
      refine cx.mono ?_
      rintro e w2 ⟨rfl, rfl⟩
      go_wp2_with (fail)
      go_ret
      exact ⟨rfl, rfl⟩
    · have hm := hd i hlt (by omega)
      obtain ⟨x, hxe⟩ : ∃ x, xs[i] = x := ⟨_, rfl⟩
      rw [hxe] at hcell hm
      have cx := cD x
      rw [decide_eq_false hm] at cx
      clear cD hxe hm hit hd hy
      go_wp2_with (fail)
      refine cx.mono ?_
      rintro e w2 ⟨rfl, rfl⟩
      go_wp2_with (fail)
      go_roundw
      case rel => exact ⟨i + 1, by omega, by go_num, trivial⟩
      case measure => simp [RowKit.intOf]; omega
theorem zeros_int (n : Nat) : (Builtin.zeroCells (Value.cells (.int .i64 0)) n).toList = List.replicate n (.int .i64 0) := by
  apply List.ext_getElem
  · simp [Builtin.zeroCells, Value.cells]
  · intro i h1 h2
    simp [Builtin.zeroCells, Value.cells, Nat.mod_one]
theorem keep_none {xs s : List Int} (h : ∀ x ∈ xs, x ∉ s) : keepL xs s = xs := List.filter_eq_self.2 fun x hx => by simp [h x hx]
theorem keep_succ {xs s : List Int} {j : Nat} (hj : j < xs.length) : keepL (xs.take (j + 1)) s = if xs[j] ∈ s then keepL (xs.take j) s else keepL (xs.take j) s ++ [xs[j]] := by
  rw [List.take_add_one, List.getElem?_eq_getElem hj, keepL, List.filter_append]
  by_cases h : xs[j] ∈ s <;> simp [keepL, h]
theorem iv_set (l : List Int) (i : Nat) (x : Int) : (l.map (Value.int .i64)).set i (.int .i64 x) = (l.set i x).map (Value.int .i64) := by rw [List.map_set]
theorem first_out (xs s : List Int) : (∀ x ∈ xs, x ∉ s) ∨ ∃ k, ∃ hk : k < xs.length, (∀ j (hj : j < xs.length), j < k → xs[j] ∉ s) ∧ xs[k] ∈ s := by
  induction xs with
  | nil => exact .inl fun x hx => by cases hx
  | cons a t ih =>
    by_cases h : a ∈ s
    · exact .inr ⟨0, by simp, fun j _ hj => absurd hj (Nat.not_lt_zero _), h⟩
    · rcases ih with h1 | ⟨k, hk, h1, h2⟩
      · exact .inl fun x hx => by
          rcases List.mem_cons.1 hx with e | e
          · rw [e]; exact h
          · exact h1 x e
      · refine .inr ⟨k + 1, by simpa using hk, fun j hj hjk => ?_, by simpa using h2⟩
        cases j with
        | zero => simpa using h
        | succ j => simpa using h1 j (by simpa using hj) (by omega)
set_option maxHeartbeats 4000000 in
theorem wdelete_any (sb : Nat) (vs : Value) (s : List Int) (v : Value) (xs : List Int) (B : Nat) (w w1 : World) (hb : Below B w w1) (ho : Own w1 B 3 v (xs.map (.int .i64))) (hc : w1.cell? ⟨sb, 0, none⟩ = some vs) (hs : sb < w1.heap.size) (hsb : v.ownBlock ≠ some sb) (hv : Reads w1 vs (s.map (.int .i64))) (hvo : s ≠ [] → ∀ q, vs.ownBlock = some q → v.ownBlock ≠ some q) (hl : s.length ≤ 1000000) (hn : xs.length ≤ 1000000) :
    Calls Tryz.prog 89 #[v, .func (.func 91) #[] #[.pointer (some ⟨sb, 0, none⟩)]] w1 fun e w' => ∃ u, e = .returned u ∧ Own w' B 3 u ((keepL xs s).map (.int .i64)) ∧ Below B w w' := by
  rcases first_out xs s with h0 | ⟨k, hk, h1, h2⟩
  · have cI := windex_none sb vs s v xs w1 hc hv ho.reads hl hn h0
    rw [keep_none h0]
    have HO := Lib.hid ho
    obtain ⟨a, c, hf⟩ := ho.reads.form
    rw [List.length_map] at hf
    subst hf
    have HB := Lib.hid hb
    clear ho hc hv hvo hsb h0 hb
    go_enter Tryz.func89, Tryz.ntmps89
    go_wp2_with (fail)
    refine cI.mono ?_
    rintro e w2 ⟨rfl, rfl⟩
    go_wp2_with (fail)
    go_ret
    exact ⟨_, rfl, HO.out, HB.out⟩
  · have cI := windex_some sb vs s v xs w1 hc hv ho.reads hl hn k hk h1 h2
    rcases ho.o.2 with ⟨_, h3⟩ | ⟨g, cap, cur, rfl, hBg, hg, hcap, hm, hcs, hpre⟩
    · rw [List.length_map] at h3; omega
    · rw [List.length_map] at *
      have hsg : sb ≠ g := fun e => hsb (by rw [e]; rfl)
      have hvg : s.map (Value.int .i64) ≠ [] → ∀ q, vs.ownBlock = some q → q ≠ g := fun h0 q hq e => hvo (fun z => h0 (by rw [z]; rfl)) q hq (by rw [e]; rfl)
      have hgl : g < w1.heap.size := ho.lt.2
      have CD : Hid (∀ x W, (∀ q, q ≠ g → W.heap[q]? = w1.heap[q]?) → w1.heap.size ≤ W.heap.size → Calls Tryz.prog 91 #[.int .i64 x, .pointer (some ⟨sb, 0, none⟩)] W fun e w' => e = .returned (.bool (decide (x ∈ s))) ∧ W = w') := Lib.hid fun x W hW hz => wdel_any sb vs s x W ((cell_of_heap (hW sb hsg) 0).trans hc) (hv.keptN hz fun h0 q hq _ => hW q (hvg h0 q hq)) hl
      have e1 : keepL (xs.take (k + 1)) s = xs.take k := by
        rw [keep_succ hk, if_pos h2]
        exact keep_none fun x hx => by
          obtain ⟨j, hj, e⟩ := List.getElem_of_mem hx
          rw [List.length_take] at hj
          rw [← e, List.getElem_take]
          exact h1 j (by omega) (by omega)
      have HO := Lib.hid ho
      have HE := Lib.hid e1
      have HB := Lib.hid hb
      have HCAP := Lib.hid (show xs.length ≤ cap ∧ cap ≤ maxLen from ⟨hcap, hm⟩)
      obtain ⟨i2, q1, q2, q3, q4⟩ := info_parts Tryz.infoIc
      clear ho hc hv hvo hsb h1 h2 e1 hb hg hcap hm hcs hpre hvg hsg
      go_enter Tryz.func89, Tryz.ntmps89
      go_wp2_with (fail)
      refine cI.mono ?_
      rintro e w2 ⟨rfl, rfl⟩
      clear cI
      have t1 : ((k : Int) == -1) = false := by rw [beq_eq_false_iff_ne]; omega
      go_wp2_with (fail)
      clear t1
      go_loopw [5, 6, 7] (fun a b _ wr => ∃ (i j : Nat) (ys : List Int), a = .int .i64 (i : Int) ∧ b = .int .i64 (j : Int) ∧ i < j ∧ j ≤ xs.length ∧ ys.length = xs.length ∧ Own wr B 3 (.slice (some ⟨g, 0, none⟩) xs.length cap) (ys.map (.int .i64)) ∧ Hid (ys.take i = keepL (xs.take j) s ∧ ys.drop j = xs.drop j) ∧ Hid (∀ q, q ≠ g → wr.heap[q]? = w1.heap[q]?) ∧ Below B w wr ∧ w1.heap.size ≤ wr.heap.size) (fun _ b _ _ => xs.length - (RowKit.intOf b).toNat)
      case atStart => exact ⟨k, k + 1, xs, rfl, by go_num, by omega, by omega, rfl, HO.out, Lib.hid ⟨HE.out.symm, rfl⟩, Lib.hid fun _ _ => rfl, HB.out, Nat.le_refl _⟩
      case round =>
        clear HO HE HB
        obtain ⟨i, j, ys, rfl, rfl, hij, hj, hyl, ho, hE, hH, hB, hz⟩ := hrel
        rename World => wr
        by_cases hlt : j < xs.length
        · have y1 : (j : Int) < (xs.length : Int) := by omega
          have hcj := ho.cell (i := j) (by rw [List.length_map]; omega)
          have hyj : ys.getD j 0 = xs[j] := by
            have := congrArg (fun l => l[0]?) hE.out.2
            simp [List.getElem?_drop, hlt, show j < ys.length by omega] at this
            rw [List.getD_eq_getElem?_getD, List.getElem?_eq_getElem (show j < ys.length by omega)]; exact this
          rw [List.getD_eq_getElem?_getD, List.getElem?_map, List.getElem?_eq_getElem (show j < ys.length by omega)] at hcj
          rw [List.getD_eq_getElem?_getD, List.getElem?_eq_getElem (show j < ys.length by omega)] at hyj
          simp only [Option.getD_some, Option.map_some] at hcj hyj
          rw [hyj] at hcj
          have cx := CD.out xs[j] wr hH.out hz
          have hks := keep_succ (s := s) hlt
          obtain ⟨x, hxe⟩ : ∃ x, xs[j] = x := ⟨_, rfl⟩
          rw [hxe] at hcj cx hks
          have HO := Lib.hid ho
          have HB := Lib.hid hB
          have HZ := Lib.hid hz
          by_cases hms : x ∈ s
          · rw [decide_eq_true hms] at cx
            rw [if_pos hms] at hks
            have HK := Lib.hid hks
            clear hks ho hyj hxe hB hz hms
            go_wp2_with (fail)
            refine cx.mono ?_
            rintro e w2 ⟨rfl, rfl⟩
            go_wp2_with (fail)
            go_roundw
            case rel => exact ⟨i, j + 1, ys, rfl, by go_num, by omega, by omega, hyl, HO.out, Lib.hid ⟨hE.out.1.trans HK.out.symm, by rw [← List.drop_drop, hE.out.2, List.drop_drop]⟩, hH, HB.out, HZ.out⟩
            case measure => simp [RowKit.intOf]; omega
          · rw [decide_eq_false hms] at cx
            rw [if_neg hms] at hks
            have hfz := ho.frozen i
            have hci := ho.cell (i := i) (by rw [List.length_map]; omega)
            have hO2 := ho.set i (.int .i64 x)
            rw [iv_set] at hO2
            have hiN : (i : Int) < (xs.length : Int) := by omega
            have HO2 := Lib.hid hO2
            have hil : i < ys.length := by omega
            have HK : Hid ((ys.set i x).take (i + 1) = keepL (xs.take (j + 1)) s ∧ (ys.set i x).drop (j + 1) = xs.drop (j + 1)) := Lib.hid ⟨by
              rw [hks, ← hE.out.1, List.take_add_one, List.getElem?_eq_getElem (by rw [List.length_set]; exact hil), List.getElem_set_self, List.take_set_of_le (Nat.le_refl _)]; rfl, by
              rw [List.drop_set_of_lt (by omega), ← List.drop_drop, hE.out.2, List.drop_drop]⟩
            have HH2 : Hid (∀ q, q ≠ g → (wr.setCell ⟨g, i, none⟩ (.int .i64 x)).heap[q]? = w1.heap[q]?) := Lib.hid fun q hq => (heap_put wr hq i _).trans (hH.out q hq)
            have HB2 : Hid (Below B w (wr.setCell ⟨g, i, none⟩ (.int .i64 x))) := Lib.hid (hB.setCell (p := ⟨g, i, none⟩) hBg _)
            clear hks ho hyj hxe hB hz hms hO2 hE hH
            go_wp2_with (fail)
            refine cx.mono ?_
            rintro e w2 ⟨rfl, rfl⟩
            go_wp2_with (fail)
            go_roundw
            case rel => exact ⟨i + 1, j + 1, ys.set i x, by go_num, by go_num, by omega, by omega, by rw [List.length_set]; exact hyl, HO2.out, HK, HH2, HB2.out, by simpa using HZ.out⟩
            case measure => simp [RowKit.intOf]; omega
        · obtain rfl : j = xs.length := by omega
          have y1 : ¬ ((xs.length : Int) < (xs.length : Int)) := by omega
          rw [List.take_length] at hE
          rcases ho.o.2 with ⟨_, h3⟩ | ⟨g2, cap2, cur, e2, _, hg, _, hm, hcs, hpre⟩
          · rw [List.length_map] at h3; omega
          · injection e2 with z1 z2 z3
            injection z1 with z1
            injection z1 with z1
            subst z1 z3
            have hcap := HCAP.out.1
            rw [List.length_map, hyl, Nat.mul_one] at hpre
            rw [Nat.mul_one] at hcs
            have hcl : ∀ ty, (Builtin.clear_ #[24] ty #[.slice (some ⟨g, i, none⟩) (xs.length - i) (cap - i)]).run Tryz.prog wr = .ok (.tuple #[]) (wr.setRow g (overL cur.toList i (List.replicate (xs.length - i) (Value.int .i64 0))).toArray) := fun ty => rowk_clear (P := Tryz.prog) Tryz.underlying24 q1 q2 wr g i (xs.length - i) (cap - i) (by omega) cur hg _ (zeros_int _) (fun u hu => by rw [List.eq_of_mem_replicate hu]; rfl) (by rw [List.length_replicate]; omega) ty
            have hg2 := setRow_heap wr g cur (overL cur.toList i (List.replicate (xs.length - i) (Value.int .i64 0))).toArray 3 (0, 0) hg
            have hqq : i + (xs.length - i) ≤ cur.size := by omega
            have hlen : (overL cur.toList i (List.replicate (xs.length - i) (Value.int .i64 0))).length = cap := by
              rw [overL_length cur.toList i (List.replicate (xs.length - i) (Value.int .i64 0)) (by rw [List.length_replicate, Array.length_toList]; omega), Array.length_toList, hcs]
            have hfin : Hid (Own (wr.setRow g (overL cur.toList i (List.replicate (xs.length - i) (Value.int .i64 0))).toArray) B 3 (.slice (some ⟨g, 0, none⟩) i cap) ((keepL xs s).map (.int .i64)) ∧ Below B w (wr.setRow g (overL cur.toList i (List.replicate (xs.length - i) (Value.int .i64 0))).toArray)) := Lib.hid ⟨⟨by
              have hle : (keepL xs s).length = i := by rw [← hE.out.1, List.length_take]; omega
              refine ⟨by simp, .inr ⟨g, cap, _, by rw [List.length_map, hle], hBg, hg2, by rw [List.length_map, hle]; omega, hm, by simp only [List.size_toArray]; rw [hlen, Nat.mul_one], ?_⟩⟩
              rw [List.length_map, hle, Nat.mul_one]
              show (overL cur.toList i _).take i = _
              rw [overL_take_le _ _ _ _ (Nat.le_refl _) (by rw [Array.length_toList]; omega), ← hE.out.1, List.map_take, take_of_prefix hpre i (by omega)]⟩, below_setRow hB hBg _⟩
            obtain ⟨wf, hwf⟩ : ∃ wf, wf = wr.setRow g (overL cur.toList i (List.replicate (xs.length - i) (Value.int .i64 0))).toArray := ⟨_, rfl⟩
            rw [← hwf] at hcl hfin
            have hs1 : ∀ W, (Instr.slice 24 (.slice (some ⟨g, 0, none⟩) xs.length cap) (some (.int .i64 (i : Int))) none none).run Tryz.prog W = .ok (.slice (some ⟨g, i, none⟩) (xs.length - i) (cap - i)) W := fun W => by
              have hz : ∀ W, (sizeOf 3).run Tryz.prog W = .ok 1 W := fun W => by kernel_rfl
              have a1 : (i : Int) ≤ (xs.length : Int) := by omega
              have a2 : ¬ cap = i := by omega
              have a3 := (addr_at g 0 i).trans (by rw [Nat.zero_add])
              simp [Instr.slice, run_underlying Tryz.underlying24, Instr.sliceBounds, Instr.sliceBound, asIntOf, hz W, a1, a2, a3]
              omega
            have hs2 := slice_hi Tryz.underlying24 (fun W => by kernel_rfl) (some ⟨g, 0, none⟩) xs.length cap i (by omega)
            clear hwf hlen hg2 hpre hcs hm hg ho hE hH hB hz CD HCAP
            clear z2 hqq
            go_wp2_with (fail)
            go_ret
            exact ⟨_, rfl, hfin.out.1, hfin.out.2⟩
set_option maxHeartbeats 1000000 in
theorem without_any (vl vs : Value) (l s : List Int) (w : World) (hvl : Reads w vl (l.map (.int .i64))) (hvs : Reads w vs (s.map (.int .i64))) (hsl : s ≠ [] → ∀ q, vs.ownBlock = some q → q < w.heap.size) (hl : l.length ≤ 1000) (hn : s.length ≤ 1000000) :
    Calls Tryz.prog 50 #[vl, vs] w (GivesIs w (keepL l s)) := by
  obtain ⟨ua0, uc0, hfs⟩ := hvs.form
  rw [List.length_map] at hfs
  subst hfs
  obtain ⟨W1, hW1⟩ : ∃ W1, W1 = w.alloc (.cells #[.slice ua0 s.length uc0] 24) := ⟨_, rfl⟩
  obtain ⟨p, hp⟩ : ∃ p, w.heap.size = p := ⟨_, rfl⟩
  have hb1 : Below w.heap.size w W1 := by rw [hW1]; exact (Below.refl _ _).alloc (Nat.le_refl _) _
  have hbx : W1.heap[p]? = some (.cells #[.slice ua0 s.length uc0] 24 (0, 0)) := by rw [hW1, ← hp]; exact heap_alloc_new _ _
  have hc := heap_cell (o := 0) hbx rfl
  have hpl := (Array.getElem?_eq_some_iff.1 hbx).1
  have cC := iclone_any vl l W1 (hvl.below hb1) hl
  have cD : Hid (∀ w2 u, Own w2 W1.heap.size 3 u (l.map (.int .i64)) → Below W1.heap.size W1 w2 → Calls Tryz.prog 89 #[u, .func (.func 91) #[] #[.pointer (some ⟨p, 0, none⟩)]] w2 fun e w' => ∃ u, e = .returned u ∧ Own w' w.heap.size 3 u ((keepL l s).map (.int .i64)) ∧ Below w.heap.size w w') := Lib.hid fun w2 u o2 b2 => by
    have hlt := fun q hq => o2.o.lt q hq
    refine wdelete_any p _ s u l w.heap.size w w2 (hb1.trans (b2.mono hb1.size)) (o2.mono hb1.size) ((b2.cell (p := ⟨p, 0, none⟩) hpl).trans hc) (Nat.lt_of_lt_of_le hpl b2.size) (fun e => ?_) ((hvs.below hb1).below b2) (fun h0 q hq e => ?_) hn (by omega)
    · have := (hlt p e).1; omega
    · have h1 := (hlt q e).1
      have h2 := hsl h0 q hq
      have h3 := hb1.size
      omega
  obtain ⟨va, vc, hfl⟩ := hvl.form
  rw [List.length_map] at hfl
  subst hfl
  clear hvl hvs hsl hbx hb1 hc hpl
  go_enter Tryz.func50, Tryz.ntmps50
  go_wp2_with (fail)
  rw [show w.alloc (.cells #[.slice ua0 s.length uc0] 24) = W1 from hW1.symm]
  refine cC.mono ?_
  rintro e w2 ⟨u, rfl, o2, b2⟩
  have cd := cD.out w2 u o2 b2
  obtain ⟨ua, uc, hfu⟩ := o2.reads.form
  rw [List.length_map] at hfu
  subst hfu
  clear cC cD o2 b2 hW1
  go_wp2_with (fail)
  refine cd.mono ?_
  rintro e w3 ⟨u3, rfl, o3, b3⟩
  have HF := Lib.hid (And.intro o3 b3)
  clear cd o3 b3
  go_wp2_with (fail)
  go_ret
  exact ⟨_, rfl, HF.out.1, HF.out.2⟩
end Go.Proofs.YtfadglcpapiklaaGreatDoor
