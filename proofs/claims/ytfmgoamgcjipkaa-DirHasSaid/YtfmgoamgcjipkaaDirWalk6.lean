/- dir: Add, Change, Remove. -/
import Derived.Test.YtfmgoamgcjipkaaDirWalk5
import Derived.Deep.RegionWith
namespace Go.Proofs.Ytfmgoamgcjipkaa
open Go.RowKit
set_option linter.unusedVariables false
set_option linter.unusedSimpArgs false
open Dr

theorem findI_lt {l : List Vol} {s : ByteArray} (h : findN l s < l.length) : findI l s = ((findN l s : Nat) : Int) := findI_good h
/-- One element set anew, cell by cell. -/
theorem set3 {w : World} {B g n cap : Nat} {T : TypeId} {l : List Vol} (h : OwnE volE w B T (.slice (some ⟨g, 0, none⟩) n cap) l) {q : Nat} (hq : q < l.length) (y : Vol) :
    OwnE volE (((w.setCell ⟨g, q * 3, none⟩ (.string y.n)).setCell ⟨g, q * 3 + 1, none⟩ (.int .i64 y.s)).setCell ⟨g, q * 3 + 2, none⟩ (.int .i64 y.r)) B T (.slice (some ⟨g, 0, none⟩) n cap) (l.set q y) := by
  have hn : n = l.length := h.row.1
  subst hn
  have a := (((h.o.stored (q * 3) (.string y.n)).1.stored (q * 3 + 1) (.int .i64 y.s)).1.stored (q * 3 + 2) (.int .i64 y.r)).1
  have e : (((volE.all l).set (q * 3) (.string y.n)).set (q * 3 + 1) (.int .i64 y.s)).set (q * 3 + 2) (.int .i64 y.r) = volE.all (l.set q y) := by
    have hl := volE.all_len l
    rw [show volE.k = 3 from rfl] at hl
    apply List.ext_getElem?
    intro j
    have hd : j = j / 3 * 3 + j % 3 := by omega
    have hr : j % 3 < 3 := Nat.mod_lt _ (by decide)
    generalize j / 3 = a at hd
    generalize j % 3 = b at hd hr
    subst hd
    by_cases ha : a < l.length
    · have g1 := volE.all_get l a ha b hr
      have g2 := volE.all_get (l.set q y) a (by rw [List.length_set]; exact ha) b hr
      rw [show volE.k = 3 from rfl] at g1 g2
      rw [g2]
      simp only [List.getElem?_set, List.length_set, hl]
      by_cases hqa : q = a
      · subst hqa
        simp only [List.getElem_set_self]
        rcases (by omega : b = 0 ∨ b = 1 ∨ b = 2) with rfl | rfl | rfl
        · simp [volE, Vol.cells]; omega
        · simp [volE, Vol.cells]; omega
        · simp [volE, Vol.cells]; omega
      · rw [List.getElem_set_ne hqa]
        rw [if_neg (by omega), if_neg (by omega), if_neg (by omega)]
        exact g1
    · rw [List.getElem?_eq_none (by simp only [List.length_set, hl]; omega), List.getElem?_eq_none (by rw [volE.all_len, List.length_set]; show l.length * 3 ≤ _; omega)]
  rw [e] at a
  refine ⟨?_⟩
  rw [List.length_set]; exact a
theorem nil_v (w : World) (n : Int) (W : World) (hb : Below w.heap.size w W) : GivesVE w [] n (.returned (.tuple #[.slice none 0 0, .int .i64 n])) W := ⟨_, rfl, OwnE.nil _ _ _ _, hb⟩
set_option maxRecDepth 100000 in
set_option maxHeartbeats 4000000 in
theorem change_any (v : Value) (l : List Vol) (y : Vol) (w : World) (hR : ReadsE volE w v l) (hl : l.length ≤ 900) : Calls Try.prog 12 #[v, y.v] w (GivesVE w (chgL l y) (chgE l y)) := by
  have hbox : Below w.heap.size w (w.alloc (.cells #[.string y.n, .int .i64 y.s, .int .i64 y.r] 24)) := (Below.refl _ _).alloc (Nat.le_refl _) _
  have hva := VolAt.made w y 24
  have cf := fun W (hW : Below w.heap.size w W) => find_any v l y.n W (hR.below hW) (by omega)
  have cc := fun W (hW : Below w.heap.size w W) => clone_any v l W (hR.below hW) (by omega)
  clear hR
  obtain ⟨q, hq⟩ : ∃ q, findN l y.n = q := ⟨_, rfl⟩
  by_cases hlt : findN l y.n < l.length
  · have hz : Hid (chgL l y = l.set q y ∧ chgE l y = 0) := Lib.hid (by rw [chgL, chgE, if_pos hlt, if_pos hlt, hq]; exact ⟨rfl, rfl⟩)
    rw [show findI l y.n = (q : Int) by rw [findI_lt hlt, hq]] at cf
    rw [hq] at hlt
    clear hq
    unfold Vol.v
    have t1 : ((q : Int) < 0) = False := by rw [eq_iff_iff, iff_false]; omega
    have t2 : decide ((q : Int) < 0) = false := by rw [decide_eq_false_iff_not]; omega
    have t3 : (q : Int) < (l.length : Int) := by omega
    go_enter Try.func12, Try.ntmps12
    go_wp2_with (fail)
    refine (cf _ hbox).mono ?_
    rintro e w1 ⟨rfl, b1⟩
    have B1 := below_c hbox b1
    go_wp2_with (fail)
    refine (cc _ B1).mono ?_
    rintro e w2 ⟨u, rfl, o2, b2⟩
    have B2 := below_c B1 b2
    have hva2 : VolAt w2 w.heap.size y := hva.below (b1.trans (b2.mono b1.size)) hva.lt
    have hs0 : (w.alloc (.cells #[.string y.n, .int .i64 y.s, .int .i64 y.r] 24)).heap.size = w.heap.size + 1 := by simp
    obtain ⟨g, cap, rfl, hgB, hgl⟩ := o2.form (by omega)
    obtain ⟨_, _, cur, hg, hn, hm, hcs, hpre⟩ := o2.row
    rw [show volE.k = 3 from rfl] at hcs hpre
    have hb1s := b1.size
    have hb2s := b2.size
    have f0 := o2.frozen (q * 3)
    have f1 := o2.frozen (q * 3 + 1)
    have f2 := o2.frozen (q * 3 + 2)
    have k0 := o2.cell (E := volE) (i := q) hlt (j := 0) (by decide)
    have k1 := o2.cell (E := volE) (i := q) hlt (j := 1) (by decide)
    have k2 := o2.cell (E := volE) (i := q) hlt (j := 2) (by decide)
    rw [show volE.k = 3 from rfl] at k0 k1 k2
    rw [show (volE.f l[q])[0]? = some (Value.string l[q].n) from rfl, Nat.add_zero] at k0
    rw [show (volE.f l[q])[1]? = some (Value.int .i64 l[q].s) from rfl] at k1
    rw [show (volE.f l[q])[2]? = some (Value.int .i64 l[q].r) from rfl] at k2
    obtain ⟨d0, d1, d2, _⟩ := hva2
    have hown : OwnE volE (((w2.setCell ⟨g, q * 3, none⟩ (.string y.n)).setCell ⟨g, q * 3 + 1, none⟩ (.int .i64 y.s)).setCell ⟨g, q * 3 + 2, none⟩ (.int .i64 y.r)) w.heap.size 24 (.slice (some ⟨g, 0, none⟩) l.length cap) (l.set q y) := by
      have := set3 (B := w.heap.size) (o2.mono (by have := B1.size; omega)) hlt y
      simpa using this
    have hownH := Lib.hid hown
    have BB : Below w.heap.size w (((w2.setCell ⟨g, q * 3, none⟩ (.string y.n)).setCell ⟨g, q * 3 + 1, none⟩ (.int .i64 y.s)).setCell ⟨g, q * 3 + 2, none⟩ (.int .i64 y.r)) :=
      ((B2.setCell (by have := B1.size; show w.heap.size ≤ g; omega) _).setCell (by have := B1.size; show w.heap.size ≤ g; omega) _).setCell (by have := B1.size; show w.heap.size ≤ g; omega) _
    have hgG : ¬ g = w.heap.size := by omega
    have hGg : ¬ w.heap.size = g := by omega
    clear hown hg hpre hcs o2
    go_wp2_with (fail)
    go_ret2
    exact ⟨_, by rw [hz.out.2]; rfl, by rw [hz.out.1]; exact hownH.out, BB⟩
  · have hz : Hid (chgL l y = [] ∧ chgE l y = 183) := Lib.hid (by rw [chgL, chgE, if_neg hlt, if_neg hlt]; exact ⟨rfl, rfl⟩)
    rw [findI_bad hlt] at cf
    unfold Vol.v
    go_enter Try.func12, Try.ntmps12
    go_wp2_with (fail)
    refine (cf _ hbox).mono ?_
    rintro e w1 ⟨rfl, b1⟩
    go_wp2_with (fail)
    go_ret2
    rw [hz.out.1, hz.out.2]
    exact nil_v w _ _ (below_c hbox b1)
set_option maxRecDepth 100000 in
set_option maxHeartbeats 4000000 in
theorem remove_any (v : Value) (l : List Vol) (s : ByteArray) (w : World) (hR : ReadsE volE w v l) (hl : l.length ≤ 900) : Calls Try.prog 14 #[v, .string s] w (GivesVE w (remL l s) (remE l s)) := by
  have cf := find_any v l s w hR (by omega)
  have cc := fun W (hW : Below w.heap.size w W) => clone_any v l W (hR.below hW) (by omega)
  clear hR
  obtain ⟨q, hq⟩ : ∃ q, findN l s = q := ⟨_, rfl⟩
  by_cases hlt : findN l s < l.length
  · have hz : Hid (remL l s = l.eraseIdx q ∧ remE l s = 0) := Lib.hid (by rw [remL, remE, if_pos hlt, if_pos hlt, hq]; exact ⟨rfl, rfl⟩)
    rw [show findI l s = (q : Int) by rw [findI_lt hlt, hq]] at cf
    rw [hq] at hlt
    clear hq
    have t2 : decide ((q : Int) < 0) = false := by rw [decide_eq_false_iff_not]; omega
    have y2 : IntKind.i64.wrap ((q : Int) + 1) = ((q + 1 : Nat) : Int) := by rw [IntWalk.i64_in _ (by omega)]; omega
    go_enter Try.func14, Try.ntmps14
    go_wp2_with (fail)
    refine cf.mono ?_
    rintro e w1 ⟨rfl, b1⟩
    go_wp2_with (fail)
    refine (cc _ b1).mono ?_
    rintro e w2 ⟨u, rfl, o2, b2⟩
    have B2 := below_c b1 b2
    have o3 := o2.mono b1.size
    have hs1 := b1.size
    have hs2 := b2.size
    have cd := delete_any u l q (q + 1) w.heap.size w2 o3 hlt rfl (by omega) (by omega)
    rw [show ((q + 1 : Nat) : Int) = (q : Int) + 1 by omega] at cd
    go_wp2_with (fail)
    refine cd.mono ?_
    rintro e w3 ⟨v3, rfl, o4, b3⟩
    go_wp2_with (fail)
    go_ret2
    exact ⟨_, by rw [hz.out.2]; rfl, by rw [hz.out.1]; exact o4, B2.trans b3⟩
  · have hz : Hid (remL l s = [] ∧ remE l s = 183) := Lib.hid (by rw [remL, remE, if_neg hlt, if_neg hlt]; exact ⟨rfl, rfl⟩)
    rw [findI_bad hlt] at cf
    go_enter Try.func14, Try.ntmps14
    go_wp2_with (fail)
    refine cf.mono ?_
    rintro e w1 ⟨rfl, b1⟩
    go_wp2_with (fail)
    go_ret2
    rw [hz.out.1, hz.out.2]
    exact nil_v w _ _ b1
theorem insert_any (l : List Vol) (y : Vol) (u : Value) (B vb : Nat) (W : World) (h : OwnE volE W B 24 u l) (hl : l.length ≤ 900) (hB : B ≤ W.heap.size)
    (hv : W.heap[vb]? = some (.cells #[.string y.n, .int .i64 y.s, .int .i64 y.r] 24 (0, 0))) (hne : u.ownBlock ≠ some vb) :
    Calls Try.prog 32 #[u, .int .i64 ((putN l y.n : Nat) : Int), .slice (some ⟨vb, 0, none⟩) 1 1] W (GivesB W B (insL l y)) := by
  by_cases hp : putN l y.n < l.length
  · exact insert_mid u l (putN l y.n) y vb B W h hp hl hB hv hne
  · have e : putN l y.n = l.length := by have := putN_le l y.n; omega
    have := insert_end u l y vb B W h (by omega) hB hv
    rw [e, insL, e, List.take_length, List.drop_length]
    exact this
theorem own_ne {w : World} {B vb : Nat} {T : TypeId} {u : Value} {l : List Vol} (h : OwnE volE w B T u l) (hv : vb < B ∨ w.heap.size ≤ vb) : u.ownBlock ≠ some vb := fun e => by
  have := h.lt vb e; omega
set_option maxRecDepth 100000 in
set_option maxHeartbeats 8000000 in
theorem add_any (v : Value) (l : List Vol) (y : Vol) (w : World) (hR : ReadsE volE w v l) (hl : l.length ≤ 900) (hs : y.n.size ≤ 140737488355328) : Calls Try.prog 10 #[v, y.v] w (GivesVE w (addL l y) (addE l y)) := by
  have hbox : Below w.heap.size w (w.alloc (.cells #[.string y.n, .int .i64 y.s, .int .i64 y.r] 24)) := (Below.refl _ _).alloc (Nat.le_refl _) _
  have hva := VolAt.made w y 24
  have cn := fun W => isname_any y.n W hs
  have cf := fun W (hW : Below w.heap.size w W) => find_any v l y.n W (hR.below hW) (by omega)
  have ci := fun W (hW : Below w.heap.size w W) (hv : VolAt W w.heap.size y) => idx_add v l W (hR.below hW) (by omega) y w.heap.size hv
  have cc := fun W (hW : Below w.heap.size w W) => clone_any v l W (hR.below hW) (by omega)
  have cins := fun u B vb W h hB hv hne => insert_any l y u B vb W h hl hB hv hne
  have lenR := fun W => hR.len_run (P := Try.prog) Try.underlying22 3 W
  obtain ⟨a, cap, rfl, _⟩ := items3 hR
  clear hR
  cases hn : nameB y.n with
  | false =>
    have hz : Hid (addE l y = 181) := Lib.hid (by unfold addE; rw [hn]; rfl)
    rw [hn] at cn
    unfold Vol.v
    go_enter Try.func10, Try.ntmps10
    go_wp2_with (go_at_call 21; refine (cn _).mono ?_; rintro e w' ⟨rfl, rfl⟩)
    go_ret2
    have e : addL l y = [] := by rw [addL, hz.out]; rfl
    rw [hz.out, e]
    exact nil_v w _ _ hbox
  | true =>
    rw [hn] at cn
    by_cases hf : findN l y.n < l.length
    · have hz : Hid (addE l y = 182) := Lib.hid (by unfold addE; rw [hn, if_pos rfl, if_pos hf])
      obtain ⟨q, hq⟩ : ∃ q, findN l y.n = q := ⟨_, rfl⟩
      rw [show findI l y.n = (q : Int) by rw [findI_lt hf, hq]] at cf
      have t1 : (0 : Int) ≤ (q : Int) := by omega
      clear hq
      unfold Vol.v
      go_enter Try.func10, Try.ntmps10
      go_wp2_with (go_at_call 21; refine (cn _).mono ?_; rintro e w' ⟨rfl, rfl⟩)
      refine (cf _ hbox).mono ?_
      rintro e w1 ⟨rfl, b1⟩
      go_wp2_with (fail)
      go_ret2
      have e : addL l y = [] := by rw [addL, hz.out]; rfl
      rw [hz.out, e]
      exact nil_v w _ _ (below_c hbox b1)
    rw [findI_bad hf] at cf
    by_cases h8 : 8 ≤ l.length
    · have hz : Hid (addE l y = 184) := Lib.hid (by unfold addE; rw [hn, if_pos rfl, if_neg hf, if_pos h8])
      have t2 : (8 : Int) ≤ (l.length : Int) := by omega
      unfold Vol.v
      go_enter Try.func10, Try.ntmps10
      go_wp2_with (go_at_call 21; refine (cn _).mono ?_; rintro e w' ⟨rfl, rfl⟩)
      refine (cf _ hbox).mono ?_
      rintro e w1 ⟨rfl, b1⟩
      go_wp2_with (fail)
      go_ret2
      have e : addL l y = [] := by rw [addL, hz.out]; rfl
      rw [hz.out, e]
      exact nil_v w _ _ (below_c hbox b1)
    have hz : Hid (addE l y = 0 ∧ addL l y = insL l y) := Lib.hid (by
      have e : addE l y = 0 := by unfold addE; rw [hn, if_pos rfl, if_neg hf, if_neg h8]
      exact ⟨e, by rw [addL, if_pos e]⟩)
    have t2 : ¬ ((8 : Int) ≤ (l.length : Int)) := by omega
    obtain ⟨p, hp⟩ : ∃ p, putN l y.n = p := ⟨_, rfl⟩
    have hple := putN_le l y.n
    have hidx : idxI (fun x => lt y.n x.n) l = if p < l.length then (p : Int) else -1 := by rw [← hp]; rfl
    rw [hp] at cins hple
    have hs0 : (w.alloc (.cells #[.string y.n, .int .i64 y.s, .int .i64 y.r] 24)).heap.size = w.heap.size + 1 := by simp
    clear hp hf h8
    by_cases hpl : p < l.length
    · rw [hidx, if_pos hpl] at ci
      have t3 : decide ((p : Int) < 0) = false := by rw [decide_eq_false_iff_not]; omega
      clear hidx
      unfold Vol.v
      go_enter Try.func10, Try.ntmps10
      go_wp2_with (go_at_call 21; refine (cn _).mono ?_; rintro e w' ⟨rfl, rfl⟩)
      refine (cf _ hbox).mono ?_
      rintro e w1 ⟨rfl, b1⟩
      have B1 := below_c hbox b1
      have v1 := hva.below b1 hva.lt
      have s1 := b1.size
      go_wp2_with (fail)
      refine (ci _ B1 v1).mono ?_
      rintro e w2 ⟨rfl, b2⟩
      have B2 := below_c B1 b2
      have v2 := v1.below b2 v1.lt
      have s2 := b2.size
      obtain ⟨k0, k1, k2, kl⟩ := v2
      clear ci cf cn b1 b2 v1 hva
      go_wp2_with (fail)
      have m0 : w2.drew.cell? ⟨w.heap.size, 0, none⟩ = some (.string y.n) := k0
      have m1 : w2.drew.cell? ⟨w.heap.size, 1, none⟩ = some (.int .i64 y.s) := k1
      have m2 : w2.drew.cell? ⟨w.heap.size, 2, none⟩ = some (.int .i64 y.r) := k2
      have BA : Below w.heap.size w (w2.drew.alloc (.cells #[.string y.n, .int .i64 y.s, .int .i64 y.r] 24)) := B2.drew.alloc (by simp; omega) _
      have vA : (w2.drew.alloc (.cells #[.string y.n, .int .i64 y.s, .int .i64 y.r] 24)).heap[w2.heap.size]? = some (.cells #[.string y.n, .int .i64 y.s, .int .i64 y.r] 24 (0, 0)) := heap_alloc_new w2.drew _
      have sA : (w2.drew.alloc (.cells #[.string y.n, .int .i64 y.s, .int .i64 y.r] 24)).heap.size = w2.heap.size + 1 := by simp
      clear k0 k1 k2
      go_region_with (first
        | (go_at_call 33
           refine (cc w2.drew B2.drew).mono ?_
           rintro e w3 ⟨u, rfl, o3, b3⟩
           have B3 := below_c B2.drew b3
           have s3 := b3.size
           have s3' : w2.heap.size ≤ w3.heap.size := s3
           have k0 : w3.cell? ⟨w.heap.size, 0, none⟩ = some (.string y.n) := by rw [b3.cell (p := ⟨w.heap.size, 0, none⟩) kl]; exact m0
           have k1 : w3.cell? ⟨w.heap.size, 1, none⟩ = some (.int .i64 y.s) := by rw [b3.cell (p := ⟨w.heap.size, 1, none⟩) kl]; exact m1
           have k2 : w3.cell? ⟨w.heap.size, 2, none⟩ = some (.int .i64 y.r) := by rw [b3.cell (p := ⟨w.heap.size, 2, none⟩) kl]; exact m2
           have B4 : Below w.heap.size w (w3.alloc (.cells #[.string y.n, .int .i64 y.s, .int .i64 y.r] 24)) := B3.alloc (by omega) _
           have o4 := (o3.mono (show w.heap.size ≤ w2.drew.heap.size by show w.heap.size ≤ w2.heap.size; omega)).alloc (.cells #[.string y.n, .int .i64 y.s, .int .i64 y.r] 24)
           have c4 := cins u w.heap.size w3.heap.size _ o4 (by simp; omega) (heap_alloc_new w3 _) (fun e => by have := o3.lt _ e; omega)
           clear m0 m1 m2 BA vA sA o3 b3)
        | (go_at_call 33
           refine (cc (w2.drew.alloc (.cells #[.string y.n, .int .i64 y.s, .int .i64 y.r] 24)) BA).mono ?_
           rintro e w3 ⟨u, rfl, o3, b3⟩
           have B4 := below_c BA b3
           have s3 := b3.size
           have o4 := o3.mono (show w.heap.size ≤ (w2.drew.alloc (.cells #[.string y.n, .int .i64 y.s, .int .i64 y.r] 24)).heap.size by rw [sA]; omega)
           have c4 := cins u w.heap.size w2.heap.size w3 o4 (by omega) (by rw [b3.block _ (by rw [sA]; omega)]; exact vA) (fun e => by have := o3.lt _ e; omega)
           clear m0 m1 m2 o3 b3)
        | (go_at_call 32
           refine c4.mono ?_
           rintro e w5 ⟨v5, rfl, o5, b5⟩))
      all_goals
        go_wp2_with (fail)
        go_ret2
        exact ⟨_, by rw [hz.out.1]; rfl, by rw [hz.out.2]; exact o5, B4.trans b5⟩
    · obtain rfl : p = l.length := by omega
      rw [hidx, if_neg hpl] at ci
      clear hidx
      unfold Vol.v
      go_enter Try.func10, Try.ntmps10
      go_wp2_with (go_at_call 21; refine (cn _).mono ?_; rintro e w' ⟨rfl, rfl⟩)
      refine (cf _ hbox).mono ?_
      rintro e w1 ⟨rfl, b1⟩
      have B1 := below_c hbox b1
      have v1 := hva.below b1 hva.lt
      have s1 := b1.size
      go_wp2_with (fail)
      refine (ci _ B1 v1).mono ?_
      rintro e w2 ⟨rfl, b2⟩
      have B2 := below_c B1 b2
      have v2 := v1.below b2 v1.lt
      have s2 := b2.size
      obtain ⟨k0, k1, k2, kl⟩ := v2
      clear ci cf cn b1 b2 v1 hva
      go_wp2_with (fail)
      have m0 : w2.drew.cell? ⟨w.heap.size, 0, none⟩ = some (.string y.n) := k0
      have m1 : w2.drew.cell? ⟨w.heap.size, 1, none⟩ = some (.int .i64 y.s) := k1
      have m2 : w2.drew.cell? ⟨w.heap.size, 2, none⟩ = some (.int .i64 y.r) := k2
      have BA : Below w.heap.size w (w2.drew.alloc (.cells #[.string y.n, .int .i64 y.s, .int .i64 y.r] 24)) := B2.drew.alloc (by simp; omega) _
      have vA : (w2.drew.alloc (.cells #[.string y.n, .int .i64 y.s, .int .i64 y.r] 24)).heap[w2.heap.size]? = some (.cells #[.string y.n, .int .i64 y.s, .int .i64 y.r] 24 (0, 0)) := heap_alloc_new w2.drew _
      have sA : (w2.drew.alloc (.cells #[.string y.n, .int .i64 y.s, .int .i64 y.r] 24)).heap.size = w2.heap.size + 1 := by simp
      clear k0 k1 k2
      go_region_with (first
        | (go_at_call 33
           refine (cc w2.drew B2.drew).mono ?_
           rintro e w3 ⟨u, rfl, o3, b3⟩
           have B3 := below_c B2.drew b3
           have s3 := b3.size
           have s3' : w2.heap.size ≤ w3.heap.size := s3
           have k0 : w3.cell? ⟨w.heap.size, 0, none⟩ = some (.string y.n) := by rw [b3.cell (p := ⟨w.heap.size, 0, none⟩) kl]; exact m0
           have k1 : w3.cell? ⟨w.heap.size, 1, none⟩ = some (.int .i64 y.s) := by rw [b3.cell (p := ⟨w.heap.size, 1, none⟩) kl]; exact m1
           have k2 : w3.cell? ⟨w.heap.size, 2, none⟩ = some (.int .i64 y.r) := by rw [b3.cell (p := ⟨w.heap.size, 2, none⟩) kl]; exact m2
           have B4 : Below w.heap.size w (w3.alloc (.cells #[.string y.n, .int .i64 y.s, .int .i64 y.r] 24)) := B3.alloc (by omega) _
           have o4 := (o3.mono (show w.heap.size ≤ w2.drew.heap.size by show w.heap.size ≤ w2.heap.size; omega)).alloc (.cells #[.string y.n, .int .i64 y.s, .int .i64 y.r] 24)
           have c4 := cins u w.heap.size w3.heap.size _ o4 (by simp; omega) (heap_alloc_new w3 _) (fun e => by have := o3.lt _ e; omega)
           clear m0 m1 m2 BA vA sA o3 b3)
        | (go_at_call 33
           refine (cc (w2.drew.alloc (.cells #[.string y.n, .int .i64 y.s, .int .i64 y.r] 24)) BA).mono ?_
           rintro e w3 ⟨u, rfl, o3, b3⟩
           have B4 := below_c BA b3
           have s3 := b3.size
           have o4 := o3.mono (show w.heap.size ≤ (w2.drew.alloc (.cells #[.string y.n, .int .i64 y.s, .int .i64 y.r] 24)).heap.size by rw [sA]; omega)
           have c4 := cins u w.heap.size w2.heap.size w3 o4 (by omega) (by rw [b3.block _ (by rw [sA]; omega)]; exact vA) (fun e => by have := o3.lt _ e; omega)
           clear m0 m1 m2 o3 b3)
        | (go_at_call 32
           refine c4.mono ?_
           rintro e w5 ⟨v5, rfl, o5, b5⟩))
      all_goals
        go_wp2_with (fail)
        go_ret2
        exact ⟨_, by rw [hz.out.1]; rfl, by rw [hz.out.2]; exact o5, B4.trans b5⟩
end Go.Proofs.Ytfmgoamgcjipkaa
