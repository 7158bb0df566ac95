/- trie: blank texts, a new heap, a new book. -/
import Derived.Test.YtlbjfigdocbffaaTriBk
import Derived.WideLaws
namespace Go.Proofs.Ytlbjfigdocbffaa
open Go.RowKit
set_option linter.unusedVariables false
set_option linter.unusedSimpArgs false

def GivesU (w : World) (n : Nat) (x : Ending) (w' : World) : Prop := ∃ u, x = .returned u ∧ Own w' w.heap.size 9 u (List.replicate n (.string zero120)) ∧ Below w.heap.size w w'
set_option maxRecDepth 100000 in
set_option maxHeartbeats 2000000 in
theorem blank17_any (n : Nat) (w : World) (hn : n ≤ 1000) : Calls Try.prog 31 #[.int .i64 (n : Int)] w (GivesU w n) := by
  obtain ⟨i2, q1, q2, q3, q4⟩ := (info_gen Try.infoS).2
  go_enter Try.func31, Try.ntmps31
  go_wp2_with (fail)
  go_loopw [3, 4] (fun v i wr => ∃ k : Nat, k ≤ n ∧ i = .int .i64 (k : Int) ∧ Own wr w.heap.size 9 v (List.replicate k (.string zero120)) ∧ Below w.heap.size w wr) (fun _ i _ => n - (intOf i).toNat)
  case atStart => exact ⟨0, Nat.zero_le _, rfl, Own.nil _ _ _, Below.refl _ _⟩
  case round =>
    obtain ⟨k, hk, rfl, ho, hB⟩ := hrel
    by_cases hlt : k < n
    · have y1 : (k : Int) < (n : Int) := by omega
      obtain ⟨wm, hmk, hR, hbm, hsm⟩ := BRow.make_run wr 120 (by decide)
      obtain ⟨g0, hg0⟩ : ∃ g0, wr.heap.size = g0 := ⟨_, rfl⟩
      rw [hg0] at hmk hR
      replace hmk : (Instr.makeSlice 86 (.int .i64 120) (.int .i64 120)).run Try.prog wr = .ok (.slice (some ⟨g0, 0, none⟩) 120 120) wm := hmk
      have hst := hR.str 120 120 (by simp)
      have hz : lineOf (List.replicate 120 0) = zero120 := rfl
      rw [hz] at hst
      have hom := ho.after hbm
      have hBm : Below w.heap.size w wm := hB.trans (hbm.mono hB.size)
      obtain ⟨v', w', hap, ho', hb', _⟩ := Own.pushA (P := Try.prog) (T := 59) Try.underlying59 q1 q2 q3 q4 rfl hom (.string zero120) rfl hBm.size (by simp; omega) (by simp; omega)
      have hfin : Hid (Own w' w.heap.size 9 v' (List.replicate (k + 1) (.string zero120)) ∧ Below w.heap.size w w') := Lib.hid ⟨by rw [List.replicate_succ']; exact ho', hBm.trans hb'⟩
      clear ho hB hom hBm ho' hb' hR hbm hsm hz q1 q2 q3 q4
      generalize zero120 = z at *
      go_wp2_with (at_builtin; refine wpList_append_run hap _ _ rfl rfl rfl rfl rfl ?_)
      go_roundw
      case rel => exact ⟨k + 1, by omega, by go_num, hfin.out⟩
      case measure => simp [intOf]; omega
    · obtain rfl : k = n := by omega
      have y1 : ¬ ((k : Int) < (k : Int)) := by omega
      have hfin : Hid (Own wr w.heap.size 9 u3 (List.replicate k (.string zero120)) ∧ Below w.heap.size w wr) := Lib.hid ⟨ho, hB⟩
      clear ho hB
      go_wp2_with (fail)
      go_ret
      exact ⟨_, rfl, hfin.out⟩
/-- What a pair of a tree is. -/
theorem pairs_at {n : Nat} {Y : Tri.TW ByteArray} {R : Nat → Nat} {G : Nat → Prop} {lv pos : Nat → Nat} (ts : TS n Y R G lv pos) {q : Nat} (hq : q < 4) (p : Nat × Nat) (hp : p ∈ pairsL Y.σ.e 3 (R q) 0) : p.1 < 4096 ∧ p.2 < n ∧ Tri.get Y.σ.e 3 (R q) p.1 = p.2 := by
  rw [pairsL_range] at hp
  obtain ⟨k, hk, h2⟩ := List.mem_filterMap.1 hp
  by_cases hz : Tri.get Y.σ.e 3 (R q) k = 0
  · rw [if_pos hz] at h2; cases h2
  · rw [if_neg hz] at h2
    injection h2 with h2
    subst h2
    have h0 : R q ≠ 0 := fun e => by rw [e, Tri.get_zero] at hz; exact hz rfl
    obtain ⟨r1, r2, r3⟩ := ts.root hq h0
    obtain ⟨y1, _, _⟩ := ts.ok.i.get_at 3 (R q) k r1 r2 hz
    refine ⟨by simpa using hk, ts.lt _ ((ts.ok.i.all _).2 (.inl y1)), ?_⟩
    show Tri.get Y.σ.e 3 (R q) (0 * 16 ^ 3 + k) = _
    rw [Nat.zero_mul, Nat.zero_add]
theorem eql_held_nil (u : Value) (W : World) : (Op.equalIn 10000 82 (.iface 59 u) .nilIface).run Try.prog W = .ok false W := run_equalIn_held_nil W 9999 82 59 u (by kernel_rfl)
theorem eql_nil_nil (W : World) : (Op.equalIn 10000 82 .nilIface .nilIface).run Try.prog W = .ok true W := run_equalIn_nil_nil W 9999 82 (by kernel_rfl)
set_option maxRecDepth 100000 in
set_option maxHeartbeats 1000000 in
theorem tnew_any (w : World) (g n : Nat) (u : Value) (C : Nat → Nat) (ht : TabAt w g n C) (hS : Small n C) (hu : Reads w u (List.replicate n (.string zero120))) (hub : ∀ k, u.ownBlock = some k → k < w.heap.size ∧ k ≠ g) :
    Calls Try.prog 30 #[.iface 59 u, .pointer (some ⟨g, 0, none⟩)] w fun x w' => x = .returned (.pointer (some ⟨w.heap.size + 1, 0, none⟩)) ∧ Below w.heap.size w w' ∧ Hp w' (w.heap.size + 1) g w.heap.size n u C (fun _ => false) (fun _ => zero120) := by
  have hq := eql_held_nil u
  obtain ⟨q, hqz⟩ : ∃ q, w.heap.size = q := ⟨_, rfl⟩
  have hmm : (Instr.makeMap 78 none).run Try.prog w = .ok (.map (some q)) (w.alloc (.map #[] 0)) := by rw [← hqz]; rfl
  obtain ⟨w1, hw1⟩ : ∃ w1, w1 = w.alloc (.map #[] 0) := ⟨_, rfl⟩
  have hm : MapZ w1 Try.prog 3 q 0 (fun _ => false) (fun _ => .agg (tcL zero120).toArray) (.agg (tcL zero120).toArray) := by rw [hw1, ← hqz]; exact MapZ.made w Try.prog 3 _
  have s1 : w1.heap.size = q + 1 := by rw [hw1, ← hqz]; simp
  have b1 : Below w.heap.size w w1 := by rw [hw1]; exact (Below.refl _ _).alloc (Nat.le_refl _) _
  obtain ⟨w2, hw2⟩ : ∃ w2, w2 = w1.alloc (.cells #[.iface 59 u, .pointer (some ⟨g, 0, none⟩), .map (some q)] 84) := ⟨_, rfl⟩
  have b2 : Below w1.heap.size w1 w2 := by rw [hw2]; exact (Below.refl _ _).alloc (Nat.le_refl _) _
  have hb : w2.heap[q + 1]? = some (.cells #[.iface 59 u, .pointer (some ⟨g, 0, none⟩), .map (some q)] 84 (0, 0)) := by rw [hw2, ← s1]; exact heap_alloc_new _ _
  have b12 : Below w.heap.size w w2 := b1.trans (b2.mono b1.size)
  have hfin : Hid (Below q w w2 ∧ Hp w2 (q + 1) g q n u C (fun _ => false) (fun _ => zero120)) := Lib.hid ⟨by rw [← hqz]; exact b12, _, ⟨hb, ht.below b12 ht.lt, ((hm.mono (Nat.zero_le n)).heap (b2.block q (by omega))), hu.below b12, fun k hk => ⟨(hub k hk).2, by have := (hub k hk).1; omega⟩, hS, by have := ht.lt; omega, by omega, by have := ht.lt; omega, fun i _ => rfl, fun i _ _ => rfl, fun z _ hz => (by cases hz), fun i => zero120_size⟩⟩
  clear hm b1 b2 hb b12 ht hS hu hub
  rw [hqz]
  rw [← hw1] at hmm
  go_enter Try.func30, Try.ntmps30
  clear hw1
  go_wp2_with (fail)
  rw [← hw2]
  clear hw2 hmm
  go_ret
  exact ⟨rfl, hfin.out⟩
theorem tnew_nil (w : World) (v : Value) : Calls Try.prog 30 #[.nilIface, v] w fun x w' => x = .returned (.pointer none) ∧ w = w' := by
  have hq := eql_nil_nil
  go_enter Try.func30, Try.ntmps30
  go_wp2_with (fail)
  go_ret
  exact ⟨rfl, rfl⟩
theorem tnew_nil2 (w : World) (u : Value) : Calls Try.prog 30 #[.iface 59 u, .pointer none] w fun x w' => x = .returned (.pointer none) ∧ w = w' := by
  have hq := eql_held_nil u
  go_enter Try.func30, Try.ntmps30
  go_wp2_with (fail)
  go_ret
  exact ⟨rfl, rfl⟩
/-- Nothing is known yet. -/
def Y00 : Tri.TW ByteArray := ⟨⟨fun _ => 0, fun _ _ => 0⟩, fun _ => zero120⟩
theorem cOf_00 : cOf Y00.σ.c = cnt0 := by funext i; rfl
theorem ts_00 (n : Nat) : TS n Y00 (fun _ => 0) (fun _ => False) (fun _ => 0) (fun _ => 0) := by
  refine ⟨⟨⟨fun b => ⟨fun z => absurd z (Nat.lt_irrefl 0), fun z => z.elim (fun y => y.elim) (fun y : noH b => False.elim y)⟩, fun _ z => z.elim, fun b z => z.elim (fun y => y.elim) (fun y : noH b => False.elim y), fun b hb => ?_, fun _ _ z => z.elim, fun _ z => z.elim, fun b (z : noH b) => False.elim z, fun _ z => z.elim⟩, fun _ z => z.elim⟩, fun i _ h => absurd rfl h, fun x hx => absurd hx (Nat.lt_irrefl 0)⟩
  obtain ⟨i, _, h2, h3⟩ := rootsX_some hb
  exact absurd h2.symm h3
theorem made4 (T : TypeId) (z : Value) (hz : z.oneCell' = true) : True := trivial
/-- A book that was made. -/
theorem bk_new {w : World} {bk rb kb tb h g m : Nat} {u : Value} (A : BkA bk rb kb tb h g m u) (hp : Hp w h g m 200 u cnt0 (fun _ => false) (fun _ => zero120))
    (hb : w.heap[bk]? = some (.cells #[.pointer (some ⟨g, 0, none⟩), .pointer (some ⟨h, 0, none⟩), .slice (some ⟨rb, 0, none⟩) 4 4, .slice (some ⟨kb, 0, none⟩) 4 4, .slice (some ⟨tb, 0, none⟩) 4 4] 34 (0, 0)))
    (hr : w.heap[rb]? = some (.cells #[.int .i64 0, .int .i64 0, .int .i64 0, .int .i64 0] 3 (0, 0))) (hk : w.heap[kb]? = some (.cells #[.slice none 0 0, .slice none 0 0, .slice none 0 0, .slice none 0 0] 28 (0, 0))) (ht : w.heap[tb]? = some (.cells #[.slice none 0 0, .slice none 0 0, .slice none 0 0, .slice none 0 0] 54 (0, 0))) :
    Bk w bk rb kb tb h g m u Y00 (fun _ => false) (fun _ => 0) (fun _ => False) (fun _ => 0) (fun _ => 0) (fun _ => .slice none 0 0) (fun _ => .slice none 0 0) := by
  refine ⟨⟨hb, hr, hk, ht, fun i _ => .inl ⟨⟨_, _, rfl⟩, ?_⟩, fun i _ => .inl ⟨⟨_, _, rfl⟩, ?_⟩, fun i _ q hq => (by cases hq), fun i _ q hq => (by cases hq), fun i _ => treeL_len _ _ _, fun i _ a n c e => by injection e; omega, fun i _ a n c e => by injection e; omega⟩, by rw [cOf_00]; exact hp, ts_00 200, A⟩
  · show (treeL _ _ 0).map kI = []
    rw [drop_tree]; rfl
  · show (treeL _ _ 0).map kS = []
    rw [drop_tree]; rfl
theorem four (w : World) (o1 o2 o3 o4 : Array Value) (t1 t2 t3 t4 : TypeId) : (((((w.alloc (.cells o1 t1)).alloc (.cells o2 t2)).alloc (.cells o3 t3)).alloc (.cells o4 t4)).drew.heap[w.heap.size]? = some (.cells o1 t1 (0, 0))) ∧ (((((w.alloc (.cells o1 t1)).alloc (.cells o2 t2)).alloc (.cells o3 t3)).alloc (.cells o4 t4)).drew.heap[w.heap.size + 1]? = some (.cells o2 t2 (0, 0))) ∧
    (((((w.alloc (.cells o1 t1)).alloc (.cells o2 t2)).alloc (.cells o3 t3)).alloc (.cells o4 t4)).drew.heap[w.heap.size + 1 + 1]? = some (.cells o3 t3 (0, 0))) ∧ (((((w.alloc (.cells o1 t1)).alloc (.cells o2 t2)).alloc (.cells o3 t3)).alloc (.cells o4 t4)).drew.heap[w.heap.size + 1 + 1 + 1]? = some (.cells o4 t4 (0, 0))) ∧ Below w.heap.size w ((((w.alloc (.cells o1 t1)).alloc (.cells o2 t2)).alloc (.cells o3 t3)).alloc (.cells o4 t4)).drew := by
  have e1 : (w.alloc (.cells o1 t1)).heap.size = w.heap.size + 1 := by simp
  have e2 : ((w.alloc (.cells o1 t1)).alloc (.cells o2 t2)).heap.size = w.heap.size + 1 + 1 := by simp
  have e3 : (((w.alloc (.cells o1 t1)).alloc (.cells o2 t2)).alloc (.cells o3 t3)).heap.size = w.heap.size + 1 + 1 + 1 := by simp
  have f1 := heap_alloc_new w (.cells o1 t1)
  have f2 := heap_alloc_new (w.alloc (.cells o1 t1)) (.cells o2 t2)
  have f3 := heap_alloc_new ((w.alloc (.cells o1 t1)).alloc (.cells o2 t2)) (.cells o3 t3)
  have f4 := heap_alloc_new (((w.alloc (.cells o1 t1)).alloc (.cells o2 t2)).alloc (.cells o3 t3)) (.cells o4 t4)
  rw [e1] at f2
  rw [e2] at f3
  rw [e3] at f4
  refine ⟨?_, ?_, ?_, f4, ?_⟩
  · exact (Below.heap_alloc _ _ _ (by rw [e3]; omega)).trans ((Below.heap_alloc _ _ _ (by rw [e2]; omega)).trans ((Below.heap_alloc _ _ _ (by rw [e1]; omega)).trans f1))
  · exact (Below.heap_alloc _ _ _ (by rw [e3]; omega)).trans ((Below.heap_alloc _ _ _ (by rw [e2]; omega)).trans f2)
  · exact (Below.heap_alloc _ _ _ (by rw [e3]; omega)).trans f3
  · exact (((((Below.refl _ w).alloc (Nat.le_refl _) _).alloc (by rw [e1]; omega) _).alloc (by rw [e2]; omega) _).alloc (by rw [e3]; omega) _).trans ⟨rfl, rfl, rfl, Nat.le_refl _, fun _ _ => rfl⟩
def GivesB (w : World) (x : Ending) (w' : World) : Prop := ∃ bk rb kb tb h g m u Y Z R G lv pos kv tv, x = .returned (.pointer (some ⟨bk, 0, none⟩)) ∧ Bk w' bk rb kb tb h g m u Y Z R G lv pos kv tv ∧ Below w.heap.size w w' ∧ (w.heap.size ≤ rb ∧ w.heap.size ≤ kb ∧ w.heap.size ≤ tb ∧ w.heap.size ≤ g ∧ w.heap.size ≤ m) ∧ Y = Y00 ∧ R = fun _ => 0
theorem begins_fin {w w3 W : World} {g m h rb kb tb bk : Nat} {u : Value} (hp : Hp w3 h g m 200 u cnt0 (fun _ => false) (fun _ => zero120)) (hw : Below w.heap.size w w3) (hg : w.heap.size ≤ g) (hm : w.heap.size ≤ m) (hb3 : Below w3.heap.size w3 W)
    (hd : (w3.heap.size ≤ rb ∧ w3.heap.size ≤ kb ∧ w3.heap.size ≤ tb ∧ w3.heap.size ≤ bk) ∧ (rb ≠ kb ∧ rb ≠ tb ∧ kb ≠ tb ∧ bk ≠ rb ∧ bk ≠ kb ∧ bk ≠ tb))
    (hb : W.heap[bk]? = some (.cells #[.pointer (some ⟨g, 0, none⟩), .pointer (some ⟨h, 0, none⟩), .slice (some ⟨rb, 0, none⟩) 4 4, .slice (some ⟨kb, 0, none⟩) 4 4, .slice (some ⟨tb, 0, none⟩) 4 4] 34 (0, 0)))
    (hr : W.heap[rb]? = some (.cells #[.int .i64 0, .int .i64 0, .int .i64 0, .int .i64 0] 3 (0, 0))) (hk : W.heap[kb]? = some (.cells #[.slice none 0 0, .slice none 0 0, .slice none 0 0, .slice none 0 0] 28 (0, 0))) (ht : W.heap[tb]? = some (.cells #[.slice none 0 0, .slice none 0 0, .slice none 0 0, .slice none 0 0] 54 (0, 0))) :
    GivesB w (.returned (.pointer (some ⟨bk, 0, none⟩))) W := by
  have l1 := hp.lts g (.inr (.inl rfl)); have l2 := hp.lts m (.inr (.inr (.inl rfl))); have l3 := hp.lts h (.inl rfl)
  have hs := hw.size
  obtain ⟨⟨d1, d2, d3, d4⟩, d5, d6, d7, d8, d9, d10⟩ := hd
  have A : BkA bk rb kb tb h g m u := ⟨d8, d9, d10, d5, d6, d7, by omega, by omega, by omega, by omega, by omega, by omega, by omega, fun q hq => by have := hp.blk q hq; omega⟩
  exact ⟨bk, rb, kb, tb, h, g, m, u, _, _, _, _, _, _, _, _, rfl, bk_new A (hp.below hb3) hb hr hk ht, hw.trans (hb3.mono hs), ⟨by omega, by omega, by omega, hg, hm⟩, rfl, rfl⟩
set_option maxRecDepth 100000 in
set_option maxHeartbeats 2000000 in
theorem begins_any (w : World) : Calls Try.prog 9 #[] w (GivesB w) := by
  have cn := new_good 200 w (by decide) (by decide)
  go_enter Try.func9, Try.ntmps9
  go_wp2_with (fail)
  refine cn.mono ?_
  rintro e w1 ⟨rfl, b1, t1⟩
  have cb := blank17_any 200 w1 (by decide)
  go_wp2_with (fail)
  refine cb.mono ?_
  rintro e w2 ⟨u, rfl, o2, b2⟩
  have t2 := t1.below b2 t1.lt
  have hsm : Small 200 cnt0 := ⟨by decide, by decide, fun i => by unfold cnt0; split <;> omega, fun i hi => by unfold cnt0; rw [if_neg (by omega)]⟩
  have cnw := tnew_any w2 w.heap.size 200 u cnt0 t2 hsm o2.reads (fun k hk => ⟨(o2.o.lt k hk).2, by have := (o2.o.lt k hk).1; have := t1.lt; omega⟩)
  go_wp2_with (fail)
  refine cnw.mono ?_
  rintro e w3 ⟨rfl, b3, hp3⟩
  have b13 : Below w.heap.size w w3 := b1.trans ((b2.trans (b3.mono b2.size)).mono b1.size)
  have hgw := t1.lt
  have hsz1 := b1.size
  have hsz2 := b2.size
  have hsz3 := b3.size
  have hul := fun k (hk : u.ownBlock = some k) => o2.o.lt k hk
  have m1 : ∀ W : World, (Instr.makeSlice 28 (.int .i64 4) (.int .i64 4)).run Try.prog W = .ok (.slice (some ⟨W.heap.size, 0, none⟩) 4 4) (W.alloc (.cells #[.int .i64 0, .int .i64 0, .int .i64 0, .int .i64 0] 3)) := fun W => by kernel_rfl
  have m2 : ∀ W : World, (Instr.makeSlice 31 (.int .i64 4) (.int .i64 4)).run Try.prog W = .ok (.slice (some ⟨W.heap.size, 0, none⟩) 4 4) (W.alloc (.cells #[.slice none 0 0, .slice none 0 0, .slice none 0 0, .slice none 0 0] 28)) := fun W => by kernel_rfl
  have m3 : ∀ W : World, (Instr.makeSlice 32 (.int .i64 4) (.int .i64 4)).run Try.prog W = .ok (.slice (some ⟨W.heap.size, 0, none⟩) 4 4) (W.alloc (.cells #[.slice none 0 0, .slice none 0 0, .slice none 0 0, .slice none 0 0] 54)) := fun W => by kernel_rfl
  have H3 := Lib.hid hp3
  have HB := Lib.hid b13
  clear hp3 b13 b1 b2 b3 t1 t2 o2 cn cb cnw hsm
  go_upto_region 5 with (fail)
  go_region
  all_goals go_wp2_with (fail)
  all_goals go_ret
  all_goals (first
    | exact begins_fin (rb := w3.heap.size) (kb := (w3.heap.size + 1)) (tb := (w3.heap.size + 1 + 1)) (bk := w3.heap.size + 1 + 1 + 1) H3.out HB.out (Nat.le_refl _) (by omega) (four w3 _ _ _ _ _ _ _ _).2.2.2.2 (by omega) (four w3 _ _ _ _ _ _ _ _).2.2.2.1 (four w3 _ _ _ _ _ _ _ _).1 (four w3 _ _ _ _ _ _ _ _).2.1 (four w3 _ _ _ _ _ _ _ _).2.2.1
    | exact begins_fin (rb := w3.heap.size) (kb := (w3.heap.size + 1 + 1)) (tb := (w3.heap.size + 1)) (bk := w3.heap.size + 1 + 1 + 1) H3.out HB.out (Nat.le_refl _) (by omega) (four w3 _ _ _ _ _ _ _ _).2.2.2.2 (by omega) (four w3 _ _ _ _ _ _ _ _).2.2.2.1 (four w3 _ _ _ _ _ _ _ _).1 (four w3 _ _ _ _ _ _ _ _).2.2.1 (four w3 _ _ _ _ _ _ _ _).2.1
    | exact begins_fin (rb := (w3.heap.size + 1)) (kb := w3.heap.size) (tb := (w3.heap.size + 1 + 1)) (bk := w3.heap.size + 1 + 1 + 1) H3.out HB.out (Nat.le_refl _) (by omega) (four w3 _ _ _ _ _ _ _ _).2.2.2.2 (by omega) (four w3 _ _ _ _ _ _ _ _).2.2.2.1 (four w3 _ _ _ _ _ _ _ _).2.1 (four w3 _ _ _ _ _ _ _ _).1 (four w3 _ _ _ _ _ _ _ _).2.2.1
    | exact begins_fin (rb := (w3.heap.size + 1)) (kb := (w3.heap.size + 1 + 1)) (tb := w3.heap.size) (bk := w3.heap.size + 1 + 1 + 1) H3.out HB.out (Nat.le_refl _) (by omega) (four w3 _ _ _ _ _ _ _ _).2.2.2.2 (by omega) (four w3 _ _ _ _ _ _ _ _).2.2.2.1 (four w3 _ _ _ _ _ _ _ _).2.1 (four w3 _ _ _ _ _ _ _ _).2.2.1 (four w3 _ _ _ _ _ _ _ _).1
    | exact begins_fin (rb := (w3.heap.size + 1 + 1)) (kb := w3.heap.size) (tb := (w3.heap.size + 1)) (bk := w3.heap.size + 1 + 1 + 1) H3.out HB.out (Nat.le_refl _) (by omega) (four w3 _ _ _ _ _ _ _ _).2.2.2.2 (by omega) (four w3 _ _ _ _ _ _ _ _).2.2.2.1 (four w3 _ _ _ _ _ _ _ _).2.2.1 (four w3 _ _ _ _ _ _ _ _).1 (four w3 _ _ _ _ _ _ _ _).2.1
    | exact begins_fin (rb := (w3.heap.size + 1 + 1)) (kb := (w3.heap.size + 1)) (tb := w3.heap.size) (bk := w3.heap.size + 1 + 1 + 1) H3.out HB.out (Nat.le_refl _) (by omega) (four w3 _ _ _ _ _ _ _ _).2.2.2.2 (by omega) (four w3 _ _ _ _ _ _ _ _).2.2.2.1 (four w3 _ _ _ _ _ _ _ _).2.2.1 (four w3 _ _ _ _ _ _ _ _).2.1 (four w3 _ _ _ _ _ _ _ _).1)
end Go.Proofs.Ytlbjfigdocbffaa
