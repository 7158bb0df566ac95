/- trie: Sole, Find, Cut. -/
import Derived.Test.YtlbjfigdocbffaaTriCutL
namespace Go.Proofs.Ytlbjfigdocbffaa
open Go.RowKit
set_option linter.unusedVariables false
set_option linter.unusedSimpArgs false

/-- The nodes on the way to a key have one reference each. -/
def soleV (c : Nat → Nat) (e : Nat → Nat → Nat) (r key j : Nat) : Bool := (List.range j).all fun d => decide (c (Tri.walkTo e r d (key / 16 ^ (3 - d))) = 1)
theorem soleV_succ (c : Nat → Nat) (e : Nat → Nat → Nat) (r key j : Nat) : soleV c e r key (j + 1) = (soleV c e r key j && decide (c (Tri.walkTo e r j (key / 16 ^ (3 - j))) = 1)) := by
  unfold soleV
  rw [List.range_succ, List.all_append]; simp
def soleR (c : Nat → Nat) (e : Nat → Nat → Nat) (r key : Nat) : Bool := soleV c e r key 3 && decide (Tri.get e 3 r key ≠ 0) && decide (c (Tri.get e 3 r key) = 1)
section
variable {w w' : World} {h g m n : Nat} {u : Value} {Y : Tri.TW ByteArray} {Z : Int → Bool} {ext : Nat → Nat} {G H : Nat → Prop} {lv pos : Nat → Nat} {b r key : Nat}
/-- A block that is a node. -/
theorem hp_node (hw : Hp w h g m n u (cOf Y.σ.c) Z Y.T) (ok : Tri.Ok ntext Y ext G H lv pos) (hlt : ∀ x, 0 < Y.σ.c x → x < n) (hG : G b) (hl : 0 < lv b) :
    Calls Try.prog 42 #[.pointer (some ⟨h, 0, none⟩), .int .i64 (b : Int)] w (GivesN w (Y.σ.e b)) := by
  obtain ⟨F, hw⟩ := hw
  have h3 := (ok.i.rng b (.inl hG)).1
  have hc := (ok.i.all b).2 (.inl hG)
  have hk : Tri.Kids G lv pos (Y.σ.e b) (lv b - 1) (pos b) := ok.i.kids hG (by omega)
  exact node_good hw b h3 (hlt b hc) (by rw [cOf_hi h3]; exact hc) _ (ok.t b hG hl) (kids_ents ok hk hlt)
theorem walk_get (e : Nat → Nat → Nat) (r key j : Nat) (hk : key < 4096) (hj : j ≤ 3) : Tri.get e 3 r key = Tri.get e (3 - j) (Tri.walkTo e r j (key / 16 ^ (3 - j))) key := by
  have h1 := Tri.get_walk e r key j (3 - j)
  rw [show j + (3 - j) = 3 by omega] at h1
  have h2 : key / 16 ^ (3 - j) < 16 ^ j := by
    rcases (show j = 0 ∨ j = 1 ∨ j = 2 ∨ j = 3 by omega) with rfl | rfl | rfl | rfl <;> omega
  rw [h1, Nat.mod_eq_of_lt h2]
set_option maxRecDepth 100000 in
set_option maxHeartbeats 2000000 in
theorem sole_spec (hw : Hp w h g m n u (cOf Y.σ.c) Z Y.T) (ok : Tri.Ok ntext Y ext G H lv pos) (hlt : ∀ x, 0 < Y.σ.c x → x < n) (hr : r ≠ 0 → G r ∧ lv r = 3 ∧ pos r = 0) (hk : key < 4096) :
    Calls Try.prog 17 #[.pointer (some ⟨h, 0, none⟩), .int .i64 (r : Int), .int .i64 (key : Int)] w (Same2 w (.tuple #[.int .i64 ((Tri.get Y.σ.e 3 r key : Nat) : Int), .bool (soleR Y.σ.c Y.σ.e r key), .int .i64 0])) := by
  have ck := isKey_any key hk w
  have cp := path_any key hk w
  obtain ⟨p, hp⟩ : ∃ p, w.heap.size = p := ⟨_, rfl⟩
  obtain ⟨w1, hw1⟩ : ∃ w1, w1 = w.alloc (pathC key) := ⟨_, rfl⟩
  have b1 : Below w.heap.size w w1 := by rw [hw1]; exact (Below.refl _ _).alloc (Nat.le_refl _) _
  have s1 : w1.heap.size = p + 1 := by rw [hw1, ← hp]; simp
  have p1 : ∀ j, j < 3 → w1.cell? ⟨p, j, none⟩ = some (.int .i64 ((key / 16 ^ (2 - j) % 16 : Nat) : Int)) := by
    intro j hj
    have hb : w1.heap[p]? = some (.cells #[.int .i64 ((key / 256 : Nat) : Int), .int .i64 ((key / 16 % 16 : Nat) : Int), .int .i64 ((key % 16 : Nat) : Int)] 3 (0, 0)) := by rw [hw1, ← hp]; exact heap_alloc_new _ _
    simp only [World.cell?, hb]
    rcases (show j = 0 ∨ j = 1 ∨ j = 2 by omega) with rfl | rfl | rfl
    · have : key / 16 ^ (2 - 0) % 16 = key / 256 := by omega
      rw [this]; rfl
    · have : key / 16 ^ (2 - 1) % 16 = key / 16 % 16 := by omega
      rw [this]; rfl
    · have : key / 16 ^ (2 - 2) % 16 = key % 16 := by omega
      rw [this]; rfl
  have HW := Lib.hid hw
  have HB1 := Lib.hid b1
  have HP1 := Lib.hid p1
  have HS1 := Lib.hid s1
  have HS := hw.small
  have HCN : Hid (∀ W, Below w.heap.size w W → ∀ b : Nat, b ≠ 0 → G b → Calls Try.prog 13 #[.pointer (some ⟨g, 0, none⟩), .int .i64 (b : Int)] W fun e w' => e = .returned (.int .i64 ((Y.σ.c b : Nat) : Int)) ∧ W = w') := Lib.hid fun W hW b h0 hG => by
    have H2 := hw.below hW
    have h3 := (ok.i.rng b (.inl hG)).1
    have := count_any g n _ (b : Int) W H2.t HS
    rw [cntV_nat (hlt b ((ok.i.all b).2 (.inl hG))), cOf_hi h3] at this
    exact this
  have HND : Hid (∀ W, Below w.heap.size w W → ∀ b : Nat, G b → 0 < lv b → Calls Try.prog 42 #[.pointer (some ⟨h, 0, none⟩), .int .i64 (b : Int)] W (GivesN W (Y.σ.e b))) := Lib.hid fun W hW b hG hl => hp_node (hw.below hW) ok hlt hG hl
  have HC1 : Hid (∀ W, Below w.heap.size w W → W.cell? ⟨h, 1, none⟩ = some (.pointer (some ⟨g, 0, none⟩))) := Lib.hid fun W hW => (hw.below hW).c1
  have HAT : Hid (∀ d, d ≤ 3 → Tri.walkTo Y.σ.e r d (key / 16 ^ (3 - d)) ≠ 0 → G (Tri.walkTo Y.σ.e r d (key / 16 ^ (3 - d))) ∧ lv (Tri.walkTo Y.σ.e r d (key / 16 ^ (3 - d))) + d = 3) := Lib.hid fun d hd hne => by
    have hr0 : r ≠ 0 := fun e => by
      subst e
      have : ∀ d P, Tri.walkTo Y.σ.e 0 d P = 0 := fun d => by
        induction d with
        | zero => intro P; rfl
        | succ d ih => intro P; unfold Tri.walkTo; rw [ih, if_pos rfl]
      exact hne (this _ _)
    obtain ⟨r1, r2, r3⟩ := hr hr0
    obtain ⟨q1, q2, q3⟩ := ok.i.walk_at r1 ⟨r2, r3⟩ d (key / 16 ^ (3 - d)) hd (by
      rcases (show d = 0 ∨ d = 1 ∨ d = 2 ∨ d = 3 by omega) with rfl | rfl | rfl | rfl <;> omega) hne
    exact ⟨q1, q2⟩
  have HEL : Hid (∀ b i, G b → 0 < lv b → i < 16 → Y.σ.e b i ≤ 255) := Lib.hid fun b i hG hl hi => by
    have hkk : Tri.Kids G lv pos (Y.σ.e b) (lv b - 1) (pos b) := ok.i.kids hG (by omega)
    exact ((kids_ents ok hkk hlt).le HS.n200) i hi
  clear hw b1 p1 s1 HS hr hlt ok
  go_enter Try.func17, Try.ntmps17
  go_wp2_with (fail)
  refine ck.mono ?_
  rintro x w' ⟨rfl, rfl⟩
  go_wp2_with (fail)
  refine cp.mono ?_
  rintro x w2 ⟨rfl, e2⟩
  rw [show w.alloc (.cells #[.int .i64 ((key / 256 : Nat) : Int), .int .i64 ((key / 16 % 16 : Nat) : Int), .int .i64 ((key % 16 : Nat) : Int)] 3) = w1 from hw1.symm] at e2
  subst e2
  clear hw1 ck cp
  rw [hp]
  have hp' := Lib.hid hp
  clear hp
  go_wp2_with (fail)
  go_loopw [22, 9, 10, 12, 13, 14] (fun i b s _ _ _ wr => ∃ j : Nat, j ≤ 3 ∧ i = .int .i64 (j : Int) ∧ b = .int .i64 ((Tri.walkTo Y.σ.e r j (key / 16 ^ (3 - j)) : Nat) : Int) ∧ s = .bool (soleV Y.σ.c Y.σ.e r key j) ∧ Below w2.heap.size w2 wr) (fun i _ _ _ _ _ _ => 3 - (intOf i).toNat)
  case atStart => exact ⟨0, by omega, rfl, rfl, rfl, Below.refl _ _⟩
  case round =>
    obtain ⟨j, hj, rfl, rfl, rfl, hb⟩ := hrel
    have hbw : Below w.heap.size w wr := HB1.out.trans (hb.mono (by have := HS1.out; have := hp'.out; omega))
    by_cases hlt : j < 3
    · have hcell : wr.cell? ⟨p, j, none⟩ = some (.int .i64 ((key / 16 ^ (2 - j) % 16 : Nat) : Int)) := by
        rw [← HP1.out j hlt]; exact hb.cell (p := ⟨p, j, none⟩) (by have := HS1.out; show p < _; omega)
      have t1 : (j : Int) < 3 := by omega
      by_cases h0 : Tri.walkTo Y.σ.e r j (key / 16 ^ (3 - j)) = 0
      · have hget : Tri.get Y.σ.e 3 r key = 0 := by rw [walk_get Y.σ.e r key j hk hj, h0, Tri.get_zero]
        have hfin : Hid (.bool (soleR Y.σ.c Y.σ.e r key) = Value.bool false ∧ Below w.heap.size w wr) := Lib.hid ⟨by unfold soleR; rw [hget]; simp, hbw⟩
        rw [h0, hget]
        generalize key / 16 ^ (2 - j) % 16 = q at *
        clear hb hbw hget h0
        go_wp2_with (fail)
        go_ret3
        exact ⟨by rw [hfin.out.1]; rfl, hfin.out.2⟩
      · obtain ⟨hG, hl⟩ := HAT.out j hj h0
        have cn := HND.out wr hbw _ hG (by omega)
        have hnext : Tri.walkTo Y.σ.e r (j + 1) (key / 16 ^ (3 - (j + 1))) = Y.σ.e (Tri.walkTo Y.σ.e r j (key / 16 ^ (3 - j))) (key / 16 ^ (2 - j) % 16) := by
          have e1 : key / 16 ^ (3 - (j + 1)) / 16 = key / 16 ^ (3 - j) := by
            rw [Nat.div_div_eq_div_mul, ← Nat.pow_succ, show (3 - (j + 1)).succ = 3 - j by omega]
          show (if Tri.walkTo Y.σ.e r j (key / 16 ^ (3 - (j + 1)) / 16) = 0 then 0 else _) = _
          rw [e1, if_neg h0, show 3 - (j + 1) = 2 - j by omega]
        have hsv := soleV_succ Y.σ.c Y.σ.e r key j
        have hel := HEL.out _ (key / 16 ^ (2 - j) % 16) hG (by omega) (Nat.mod_lt _ (by omega))
        have hd16 : key / 16 ^ (2 - j) % 16 < 16 := Nat.mod_lt _ (by omega)
        have HCB := Lib.hid (fun W hW => HCN.out W hW _ h0 hG)
        have hNX := Lib.hid hnext
        have hSV := Lib.hid hsv
        clear hnext hsv
        generalize hbb : Tri.walkTo Y.σ.e r j (key / 16 ^ (3 - j)) = bb at *
        generalize key / 16 ^ (2 - j) % 16 = q at *
        have hbb' := Lib.hid hbb
        clear hbb hl
        have t2 : ((bb : Int) == 0) = false := by rw [beq_eq_false_iff_ne]; omega
        have t3 : (q : Int) < 16 := by omega
        have hG' := Lib.hid hG
        have hB0 := Lib.hid hbw
        have hB2 := Lib.hid hb
        clear hG hbw hb
        go_wp2_with (fail)
        refine cn.mono ?_
        rintro x w3 ⟨rfl, b3⟩
        obtain ⟨g3, hg3⟩ : ∃ g3, w3.heap.size = g3 := ⟨_, rfl⟩
        have hst : (storeCells ⟨g3, 0, none⟩ (ndL (Y.σ.e bb)) 0).run Try.prog (w3.alloc (.cells #[.int .u8 0, .int .u8 0, .int .u8 0, .int .u8 0, .int .u8 0, .int .u8 0, .int .u8 0, .int .u8 0, .int .u8 0, .int .u8 0, .int .u8 0, .int .u8 0, .int .u8 0, .int .u8 0, .int .u8 0, .int .u8 0] 91)) = .ok () (w3.alloc (.cells (ndL (Y.σ.e bb)).toArray 91)) := by
          rw [← hg3]; exact run_storeCells_new (P := Try.prog) w3 91 nd0 (ndL (Y.σ.e bb)).toArray (nd_isa _) (by rw [nd_size]; rfl) (nd_one _)
        obtain ⟨w4, hw4⟩ : ∃ w4, w4 = w3.alloc (.cells (ndL (Y.σ.e bb)).toArray 91) := ⟨_, rfl⟩
        rw [← hw4] at hst
        have q4 : Below w3.heap.size w3 w4 := by rw [hw4]; exact (Below.refl _ _).alloc (Nat.le_refl _) _
        have n4 : w4.heap[g3]? = some (.cells (ndL (Y.σ.e bb)).toArray 91 (0, 0)) := by rw [hw4, ← hg3]; exact heap_alloc_new _ _
        have hc4 : w4.cell? ⟨g3, q, none⟩ = some (.int .u8 ((Y.σ.e bb q : Nat) : Int)) := by
          simp only [World.cell?, n4]; simpa using ndL_get _ q hd16
        have B4 : Below wr.heap.size wr w4 := b3.trans (q4.mono b3.size)
        have HBw : Hid (Below w.heap.size w w4) := Lib.hid (hB0.out.trans (B4.mono hB0.out.size))
        have HBr : Hid (Below w2.heap.size w2 w4) := Lib.hid (hB2.out.trans (B4.mono hB2.out.size))
        have c1 := HC1.out w4 HBw.out
        have cc := HCB.out w4 HBw.out
        have hwr : IntKind.i64.wrap ((Y.σ.e bb q : Nat) : Int) = ((Y.σ.e bb q : Nat) : Int) := by simp [IntKind.wrap, IntKind.signed, IntKind.bits]; omega
        clear b3 q4 n4 B4 hw4 cn
        generalize hqq : Y.σ.e bb q = qq at *
        have hqq' := Lib.hid hqq
        clear hqq hel
        cases hsv0 : soleV Y.σ.c Y.σ.e r key j
        · have hsv1 := Lib.hid hsv0
          clear hsv0
          go_wp2_with (fail)
          go_roundw
          case rel => exact ⟨j + 1, by omega, by go_num, by rw [hNX.out], by rw [hSV.out, hsv1.out]; rfl, HBr.out⟩
          case measure => simp [intOf]; omega
        · have hsv1 := Lib.hid hsv0
          clear hsv0
          generalize hcb : Y.σ.c bb = cb at *
          have hcb' := Lib.hid hcb
          clear hcb
          go_wp2_with (fail)
          refine cc.mono ?_
          rintro x w' ⟨rfl, rfl⟩
          go_wp2_with (fail)
          go_roundw
          case rel => exact ⟨j + 1, by omega, by go_num, by rw [hNX.out], by
            rw [hSV.out, hsv1.out, Bool.true_and]
            congr 1
            by_cases z : cb = 1
            · rw [z]; rfl
            · rw [decide_eq_false z, beq_eq_false_iff_ne]; omega, HBr.out⟩
          case measure => simp [intOf]; omega
    · obtain rfl : j = 3 := by omega
      have hgw : Tri.walkTo Y.σ.e r 3 (key / 16 ^ (3 - 3)) = Tri.get Y.σ.e 3 r key := (walk_get Y.σ.e r key 3 hk (Nat.le_refl _)).symm
      have hfin := Lib.hid hbw
      have c1 := HC1.out wr hbw
      have HA := HAT.out 3 (Nat.le_refl _)
      have HCB := HCN.out wr hbw
      rw [hgw] at HA ⊢
      have hsr : Hid (soleR Y.σ.c Y.σ.e r key = (soleV Y.σ.c Y.σ.e r key 3 && decide (Tri.get Y.σ.e 3 r key ≠ 0) && decide (Y.σ.c (Tri.get Y.σ.e 3 r key) = 1))) := Lib.hid rfl
      clear hgw hb hbw
      generalize soleR Y.σ.c Y.σ.e r key = sr at *
      generalize Tri.get Y.σ.e 3 r key = bb at *
      cases hsv0 : soleV Y.σ.c Y.σ.e r key 3
      · have hsr2 : Hid (sr = false) := Lib.hid (by rw [hsr.out, hsv0]; rfl)
        clear hsv0 HA HCB
        go_wp2_with (fail)
        go_ret3
        exact ⟨by rw [hsr2.out]; rfl, hfin.out⟩
      · by_cases h0 : bb = 0
        · subst h0
          have hsr2 : Hid (sr = false) := Lib.hid (by rw [hsr.out, hsv0]; rfl)
          clear hsv0 HA HCB
          go_wp2_with (fail)
          go_ret3
          exact ⟨by rw [hsr2.out]; rfl, hfin.out⟩
        · have cc := HCB bb h0 (HA h0).1
          have hsr2 : Hid (sr = decide (Y.σ.c bb = 1)) := Lib.hid (by rw [hsr.out, hsv0, decide_eq_true (show bb ≠ 0 from h0)]; rfl)
          have t2 : ((bb : Int) == 0) = false := by rw [beq_eq_false_iff_ne]; omega
          have t3 : ((bb : Int) != 0) = true := by rw [bne_iff_ne]; omega
          clear hsv0 HA HCB h0
          generalize Y.σ.c bb = cb at *
          go_wp2_with (fail)
          refine cc.mono ?_
          rintro x w' ⟨rfl, rfl⟩
          go_wp2_with (fail)
          go_ret3
          refine ⟨?_, hfin.out⟩
          rw [hsr2.out]
          by_cases z : cb = 1
          · rw [z]; rfl
          · rw [decide_eq_false z, show ((cb : Int) == 1) = false by rw [beq_eq_false_iff_ne]; omega]; rfl
theorem find_spec (hw : Hp w h g m n u (cOf Y.σ.c) Z Y.T) (ok : Tri.Ok ntext Y ext G H lv pos) (hlt : ∀ x, 0 < Y.σ.c x → x < n) (hr : r ≠ 0 → G r ∧ lv r = 3 ∧ pos r = 0) (hk : key < 4096) :
    Calls Try.prog 18 #[.pointer (some ⟨h, 0, none⟩), .int .i64 (r : Int), .int .i64 (key : Int)] w (Same2 w (.tuple #[.int .i64 ((Tri.get Y.σ.e 3 r key : Nat) : Int), .int .i64 0])) :=
  hfind_of _ _ _ _ (sole_spec hw ok hlt hr hk)
theorem cutn_of {root key : Int} (hs : Calls Try.prog 18 #[.pointer (some ⟨h, 0, none⟩), .int .i64 root, .int .i64 key] w (Same2 w (.tuple #[.int .i64 0, .int .i64 0]))) :
    Calls Try.prog 28 #[.pointer (some ⟨h, 0, none⟩), .int .i64 root, .int .i64 key] w (Same2 w (.tuple #[.int .i64 root, .int .i64 0])) := by
  go_enter Try.func28, Try.ntmps28
  go_wp2_with (fail)
  refine hs.mono ?_
  rintro x w2 ⟨rfl, b2⟩
  have hfin := Lib.hid b2
  clear b2
  go_wp2_with (fail)
  go_ret2
  exact ⟨rfl, hfin.out⟩
theorem cuts_of {C C1 : Nat → Nat} {Z Z1 : Int → Bool} {X X1 : Nat → ByteArray} (root key f t : Nat) (hk : key < 4096) (h0 : f ≠ 0) (hw : Hp w h g m n u C Z X)
    (hs : Calls Try.prog 18 #[.pointer (some ⟨h, 0, none⟩), .int .i64 (root : Int), .int .i64 (key : Int)] w (Same2 w (.tuple #[.int .i64 (f : Int), .int .i64 0])))
    (hc : ∀ W p, Hp W h g m n u C Z X → PathAt W g m p 0 3 key → Calls Try.prog 45 #[.pointer (some ⟨h, 0, none⟩), .int .i64 (root : Int), restV p 0 3] W (HpG W h g m n u C1 Z1 X1 (.tuple #[.int .i64 (t : Int), .int .i64 0]))) :
    Calls Try.prog 28 #[.pointer (some ⟨h, 0, none⟩), .int .i64 (root : Int), .int .i64 (key : Int)] w (HpG w h g m n u C1 Z1 X1 (.tuple #[.int .i64 (t : Int), .int .i64 0])) := by
  have hgl := Lib.hid (hw.lts g (.inr (.inl rfl)))
  have hml := Lib.hid (hw.lts m (.inr (.inr (.inl rfl))))
  have HW := Lib.hid hw
  have HC := Lib.hid hc
  have t2 : ((f : Int) == 0) = false := by rw [beq_eq_false_iff_ne]; omega
  clear hc hw h0
  go_enter Try.func28, Try.ntmps28
  go_wp2_with (fail)
  refine hs.mono ?_
  rintro x w2 ⟨rfl, b2⟩
  have B2 := Lib.hid b2
  clear b2
  have cp := path_any key hk w2
  go_wp2_with (fail)
  refine cp.mono ?_
  rintro x w3 ⟨rfl, e3⟩
  have b3 : Below w2.heap.size w2 w3 := by rw [e3]; exact (Below.refl _ _).alloc (Nat.le_refl _) _
  have hP : PathAt w3 g m w2.heap.size 0 3 key := by
    refine ⟨by rw [e3]; simp, by have := hgl.out; have := B2.out.size; omega, by have := hml.out; have := B2.out.size; omega, fun j hj => ?_⟩
    have hb : w3.heap[w2.heap.size]? = some (.cells #[.int .i64 ((key / 256 : Nat) : Int), .int .i64 ((key / 16 % 16 : Nat) : Int), .int .i64 ((key % 16 : Nat) : Int)] 3 (0, 0)) := by rw [e3]; exact heap_alloc_new _ _
    simp only [World.cell?, hb, Nat.zero_add]
    rcases (show j = 0 ∨ j = 1 ∨ j = 2 by omega) with rfl | rfl | rfl
    · have : key / 16 ^ (3 - 1 - 0) % 16 = key / 256 := by omega
      rw [this]; rfl
    · have : key / 16 ^ (3 - 1 - 1) % 16 = key / 16 % 16 := by omega
      rw [this]; rfl
    · have : key / 16 ^ (3 - 1 - 2) % 16 = key % 16 := by omega
      rw [this]; rfl
  have cc := HC.out w3 _ ((HW.out.below B2.out).below b3) hP
  unfold restV at cc
  have B3 := Lib.hid (B2.out.trans (b3.mono B2.out.size))
  clear e3 b3 hP
  go_wp2_with (fail)
  refine cc.mono ?_
  rintro x w4 ⟨rfl, T4, H4⟩
  have hfin := Lib.hid (show HTo w g m w4 from (HTo.quiet B3.out).trans T4)
  have hfin2 := Lib.hid H4
  clear T4 H4
  go_wp2_with (fail)
  go_ret2
  exact ⟨rfl, hfin.out, hfin2.out⟩
/-- Set, over the maths. -/
theorem Set_spec (h g m : Nat) (u : Value) {ext0 : Nat → Nat} {B block : Nat} (hn : n ≤ 200) (hbk : block ≠ 0) (ok : Tri.Ok ntext Y (Tri.plus (Tri.plus ext0 (Tri.oneZ block)) (Tri.oneZ r)) G H lv pos) (hr : r ≠ 0 → lv r = 3 ∧ pos r = 0) (hb : lv block = 0 ∧ pos block = key) (hk : key < 4096) (hlt : ∀ x, 0 < Y.σ.c x → x < n) (hB : ∀ x, ext0 x ≤ B) (hB2 : B ≤ 17) (hroom : usedTo (cOf Y.σ.c) n + 3 ≤ n) :
    ∃ t Y' Z' G' lv' pos', t ≠ 0 ∧ Tri.Chg ntext Y Y' ext0 G H lv pos G' lv' pos' 3 0 t (Tri.setF (Tri.get Y.σ.e 3 r) 3 key block) ∧ (∀ x, 0 < Y'.σ.c x → x < n) ∧
      (Tri.get Y.σ.e 3 r key = 0 → (∀ K, Seg K (cOf Y.σ.c) → GrowK K 3 r t Y.σ.c Y'.σ.c) ∧ (2 ≤ Y.σ.c r → ∀ k', k' / 16 = key / 16 → Tri.get Y.σ.e 3 r k' ≠ 0 → Y'.σ.c (Tri.get Y.σ.e 3 r k') = Y.σ.c (Tri.get Y.σ.e 3 r k') + 1)) ∧
      ∀ w, Hp w h g m n u (cOf Y.σ.c) Z Y.T → Calls Try.prog 24 #[.pointer (some ⟨h, 0, none⟩), .int .i64 (r : Int), .int .i64 (key : Int), .int .i64 (block : Int)] w (HpG w h g m n u (cOf Y'.σ.c) Z' Y'.T (.tuple #[.int .i64 (t : Int), .int .i64 0])) := by
  have hm : key % 16 ^ 3 = key := Nat.mod_eq_of_lt hk
  obtain ⟨t, Y', Z', G', lv', pos', c1, c2, c3, c4, c5⟩ := set_lv (key := key) h g m u hn hbk 3 (B := B) Z ok hr ⟨hb.1, by rw [hb.2, hm]; omega⟩ hlt hB (by omega) hroom
  have hG := ok.i.ex block (by
    unfold Tri.plus
    rw [Tri.oneZ_pos hbk, Tri.one_same]; omega)
  have h3 := (ok.i.rng block (.inl hG)).1
  have hc := (ok.i.all block).2 (.inl hG)
  refine ⟨t, Y', Z', G', lv', pos', c1, c2, c3, fun hz => ⟨(c4 hz).1, fun h2 => (c4 hz).2.2 h2 (by omega)⟩, fun w hw => ?_⟩
  have hgl := hw.lts g (.inr (.inl rfl))
  have hml := hw.lts m (.inr (.inr (.inl rfl)))
  refine hset_of hw r key block t hk h3 (hlt _ hc) (by rw [cOf_hi h3]; exact hc) (fun hw1 => c5 _ _ 0 hw1 ?_)
  refine ⟨by simp, by omega, by omega, fun j hj => ?_⟩
  have hb : (w.alloc (pathC key)).heap[w.heap.size]? = some (.cells #[.int .i64 ((key / 256 : Nat) : Int), .int .i64 ((key / 16 % 16 : Nat) : Int), .int .i64 ((key % 16 : Nat) : Int)] 3 (0, 0)) := heap_alloc_new _ _
  simp only [World.cell?, hb, Nat.zero_add]
  rcases (show j = 0 ∨ j = 1 ∨ j = 2 by omega) with rfl | rfl | rfl
  · have : key / 16 ^ (3 - 1 - 0) % 16 = key / 256 := by omega
    rw [this]; rfl
  · have : key / 16 ^ (3 - 1 - 1) % 16 = key / 16 % 16 := by omega
    rw [this]; rfl
  · have : key / 16 ^ (3 - 1 - 2) % 16 = key % 16 := by omega
    rw [this]; rfl
/-- Cut of a key that has a block; the room that it needs. -/
theorem Cut_room (h g m : Nat) (u : Value) {ext0 : Nat → Nat} {B : Nat} (hn : n ≤ 200) (ok : Tri.Ok ntext Y (Tri.plus ext0 (Tri.oneZ r)) G H lv pos) (hr : r ≠ 0 → lv r = 3 ∧ pos r = 0) (hk : key < 4096) (hlt : ∀ x, 0 < Y.σ.c x → x < n) (hB : ∀ x, ext0 x ≤ B) (hB2 : B ≤ 17) (hroom : usedTo (cOf Y.σ.c) n + 3 ≤ n) (hz : Tri.get Y.σ.e 3 r key ≠ 0) :
    ∃ t Y' Z' G' lv' pos', Tri.Chg ntext Y Y' ext0 G H lv pos G' lv' pos' 3 0 t (Tri.setF (Tri.get Y.σ.e 3 r) 3 key 0) ∧ (∀ x, 0 < Y'.σ.c x → x < n) ∧
      (usedTo (cOf Y'.σ.c) n + pdn Y.σ.c Y.σ.e 3 r key ≤ usedTo (cOf Y.σ.c) n + pdn Y'.σ.c Y'.σ.e 3 t key ∧ pdn Y'.σ.c Y'.σ.e 3 t key = exn Y'.σ.e 3 t key) ∧
      ∀ w, Hp w h g m n u (cOf Y.σ.c) Z Y.T → Calls Try.prog 28 #[.pointer (some ⟨h, 0, none⟩), .int .i64 (r : Int), .int .i64 (key : Int)] w (HpG w h g m n u (cOf Y'.σ.c) Z' Y'.T (.tuple #[.int .i64 (t : Int), .int .i64 0])) := by
  have hr2 : r ≠ 0 → G r ∧ lv r = 3 ∧ pos r = 0 := fun h0 => ⟨ok.i.ex r (by unfold Tri.plus; rw [Tri.oneZ_pos h0, Tri.one_same]; omega), hr h0⟩
  obtain ⟨t, Y', Z', G', lv', pos', c1, c2, c4, c3⟩ := cut_lv (key := key) h g m u hn 3 (B := B) Z ok hr hlt hB (by omega) hroom hz
  exact ⟨t, Y', Z', G', lv', pos', c1, c2, c4, fun w hw => cuts_of r key _ t hk hz hw (find_spec hw ok hlt hr2 hk) fun W p hW hP => c3 W p 0 hW hP⟩
/-- Cut, over the maths. -/
theorem Cut_spec (h g m : Nat) (u : Value) {ext0 : Nat → Nat} {B : Nat} (hn : n ≤ 200) (ok : Tri.Ok ntext Y (Tri.plus ext0 (Tri.oneZ r)) G H lv pos) (hr : r ≠ 0 → lv r = 3 ∧ pos r = 0) (hk : key < 4096) (hlt : ∀ x, 0 < Y.σ.c x → x < n) (hB : ∀ x, ext0 x ≤ B) (hB2 : B ≤ 17) (hroom : usedTo (cOf Y.σ.c) n + 3 ≤ n) :
    ∃ t Y' Z' G' lv' pos', Tri.Chg ntext Y Y' ext0 G H lv pos G' lv' pos' 3 0 t (Tri.setF (Tri.get Y.σ.e 3 r) 3 key 0) ∧ (∀ x, 0 < Y'.σ.c x → x < n) ∧
      ∀ w, Hp w h g m n u (cOf Y.σ.c) Z Y.T → Calls Try.prog 28 #[.pointer (some ⟨h, 0, none⟩), .int .i64 (r : Int), .int .i64 (key : Int)] w (HpG w h g m n u (cOf Y'.σ.c) Z' Y'.T (.tuple #[.int .i64 (t : Int), .int .i64 0])) := by
  have hr2 : r ≠ 0 → G r ∧ lv r = 3 ∧ pos r = 0 := fun h0 => ⟨ok.i.ex r (by unfold Tri.plus; rw [Tri.oneZ_pos h0, Tri.one_same]; omega), hr h0⟩
  by_cases hz : Tri.get Y.σ.e 3 r key = 0
  · refine ⟨r, Y, Z, G, lv, pos, ⟨ok, ⟨fun x hx => ⟨ok.i.ex x (by unfold Tri.plus; omega), rfl, rfl, fun _ => rfl⟩, fun y hy hl => ⟨hy, hl, rfl, rfl⟩, fun _ _ => ⟨rfl, rfl⟩⟩, hr, fun k => ?_⟩, hlt, fun w hw => ?_⟩
    · unfold Tri.setF
      by_cases e : k % 16 ^ 3 = key % 16 ^ 3
      · rw [if_pos e, ← hz]
        exact Tri.get_mod Y.σ.e 3 r e
      · rw [if_neg e]
    · have := find_spec hw ok hlt hr2 hk
      rw [hz] at this
      exact (cutn_of this).mono fun x w' k => HpG.same hw k
  · obtain ⟨t, Y', Z', G', lv', pos', c1, c2, _, c3⟩ := cut_lv (key := key) h g m u hn 3 (B := B) Z ok hr hlt hB (by omega) hroom hz
    exact ⟨t, Y', Z', G', lv', pos', c1, c2, fun w hw => cuts_of r key _ t hk hz hw (find_spec hw ok hlt hr2 hk) fun W p hW hP => c3 W p 0 hW hP⟩
end
end Go.Proofs.Ytlbjfigdocbffaa
