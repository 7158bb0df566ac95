/- trie: Drop. -/
import Derived.Test.YtlbjfigdocbffaaTriSole
namespace Go.Proofs.Ytlbjfigdocbffaa
open Go.RowKit
set_option linter.unusedVariables false
set_option linter.unusedSimpArgs false

section
variable {w w' : World} {h g m n : Nat} {u : Value} {C : Nat → Nat} {Z : Int → Bool} {X : Nat → ByteArray} {b l : Nat}
set_option maxRecDepth 100000 in
set_option maxHeartbeats 1000000 in
theorem drop_rel (b l : Int) (hbl : b = 0 ∨ l = 0) {C1 : Nat → Nat} (hrel : Calls Try.prog 49 #[.pointer (some ⟨h, 0, none⟩), .int .i64 b] w (HpG w h g m n u C1 Z X (.int .i64 0))) :
    Calls Try.prog 36 #[.pointer (some ⟨h, 0, none⟩), .int .i64 b, .int .i64 l] w (HpG w h g m n u C1 Z X (.int .i64 0)) := by
  by_cases hb : b = 0
  · subst hb
    clear hbl
    go_enter Try.func36, Try.ntmps36
    go_wp2_with (fail)
    refine hrel.mono ?_
    rintro x w2 ⟨rfl, T2, H2⟩
    have hfin := Lib.hid T2
    have hfin2 := Lib.hid H2
    clear T2 H2
    go_wp2_with (fail)
    go_ret
    exact ⟨rfl, hfin.out, hfin2.out⟩
  · have hl : l = 0 := hbl.resolve_left hb
    subst hl
    have t1 : (b == 0) = false := by rw [beq_eq_false_iff_ne]; exact hb
    clear hbl
    go_enter Try.func36, Try.ntmps36
    go_wp2_with (fail)
    refine hrel.mono ?_
    rintro x w2 ⟨rfl, T2, H2⟩
    have hfin := Lib.hid T2
    have hfin2 := Lib.hid H2
    clear T2 H2
    go_wp2_with (fail)
    go_ret
    exact ⟨rfl, hfin.out, hfin2.out⟩
set_option maxRecDepth 100000 in
set_option maxHeartbeats 2000000 in
theorem drop_more (H : Hp w h g m n u C Z X) (l : Nat) (hl3 : l < 3) (h3 : 3 ≤ b) (hb : b < n) (hc : 2 ≤ C b) (e : Nat → Nat) (he : ∀ j, j < 16 → e j ≤ 255)
    (hnode : ∀ W, Hp W h g m n u C Z X → Calls Try.prog 42 #[.pointer (some ⟨h, 0, none⟩), .int .i64 (b : Int)] W (GivesN W e)) :
    Calls Try.prog 36 #[.pointer (some ⟨h, 0, none⟩), .int .i64 (b : Int), .int .i64 ((l + 1 : Nat) : Int)] w (HpG w h g m n u (upd C b (C b - 1)) Z X (.int .i64 0)) := by
  rw [show ((l + 1 : Nat) : Int) = (l : Int) + 1 from rfl]
  have hS := H.small
  have cn := hnode w H
  have HE := Lib.hid he
  have t1 : ((b : Int) == 0) = false := by rw [beq_eq_false_iff_ne]; omega
  have t2 : (((l : Int) + 1) == 0) = false := by rw [beq_eq_false_iff_ne]; omega
  have t3 : ¬ ((l : Int) + 1 = 0) := by omega
  have t4 : ¬ ((b : Int) = 0) := by omega
  have HH := Lib.hid H
  have hgl := Lib.hid (H.lts g (.inr (.inl rfl)))
  have hDEC : Hid (∀ W, Hp W h g m n u C Z X → Calls Try.prog 50 #[.pointer (some ⟨g, 0, none⟩), .int .i64 (b : Int)] W (GetsT W g n (upd C b (C b - 1)) (.tuple #[.int .i64 ((C b - 1 : Nat) : Int), .int .i64 0]))) := Lib.hid fun W hW => dec_good g n C b W hW.t hS h3 hb (by omega)
  clear hnode he
  go_enter Try.func36, Try.ntmps36
  go_wp2_with (fail)
  refine cn.mono ?_
  rintro x w3 ⟨rfl, b3⟩
  obtain ⟨g3, hg3⟩ : ∃ g3, w3.heap.size = g3 := ⟨_, rfl⟩
  have hst : (storeCells ⟨g3, 0, none⟩ (ndL e) 0).run Try.prog (w3.alloc (.cells #[.int .u8 0, .int .u8 0, .int .u8 0, .int .u8 0, .int .u8 0, .int .u8 0, .int .u8 0, .int .u8 0, .int .u8 0, .int .u8 0, .int .u8 0, .int .u8 0, .int .u8 0, .int .u8 0, .int .u8 0, .int .u8 0] 91)) = .ok () (w3.alloc (.cells (ndL e).toArray 91)) := by
    rw [← hg3]; exact run_storeCells_new (P := Try.prog) w3 91 nd0 (ndL e).toArray (nd_isa e) (by rw [nd_size]; rfl) (nd_one e)
  obtain ⟨w4, hw4⟩ : ∃ w4, w4 = w3.alloc (.cells (ndL e).toArray 91) := ⟨_, rfl⟩
  rw [← hw4] at hst
  have q4 : Below w3.heap.size w3 w4 := by rw [hw4]; exact (Below.refl _ _).alloc (Nat.le_refl _) _
  have HN4 : Hid (w4.heap[g3]? = some (.cells (ndL e).toArray 91 (0, 0))) := Lib.hid (by rw [hw4, ← hg3]; exact heap_alloc_new _ _)
  have HB4 : Hid (HTo w g m w4) := Lib.hid (HTo.quiet (b3.trans (q4.mono b3.size)))
  have H4 : Hid (Hp w4 h g m n u C Z X) := Lib.hid ((HH.out.below b3).below q4)
  have HS4 : Hid (w.heap.size ≤ g3 ∧ g3 < w4.heap.size ∧ g3 ≠ g) := Lib.hid (by
    have := b3.size; have := hgl.out
    rw [hw4, ← hg3]; simp; omega)
  have c1 := H4.out.c1
  have cd := hDEC.out w4 H4.out
  clear b3 q4 hw4 cn
  have t5 : decide (((C b - 1 : Nat) : Int) > 0) = true := decide_eq_true (by omega)
  have t6 : decide ((0 : Int) < ((C b - 1 : Nat) : Int)) = true := decide_eq_true (by omega)
  have t7 : decide (0 < C b - 1) = true := decide_eq_true (by omega)
  have hSU := Lib.hid (small_upd hS hb (v := C b - 1) (by have := hS.c b; omega))
  clear hc hS hb H
  generalize upd C b (C b - 1) = C1 at *
  generalize C b - 1 = q at *
  go_wp2_with (fail)
  refine cd.mono ?_
  rintro x w5 ⟨rfl, t2⟩
  have hT2 := Lib.hid t2
  clear t2
  go_wp2_with (fail)
  go_ret
  exact ⟨rfl, HB4.out.trans (HTo.tab hT2.out), H4.out.tab hT2.out hSU.out⟩
set_option maxRecDepth 100000 in
set_option maxHeartbeats 2000000 in
theorem drop_last (H : Hp w h g m n u C Z X) (l : Nat) (hl3 : l < 3) (h3 : 3 ≤ b) (hb : b < n) (hc : C b = 1) (e : Nat → Nat) (he : ∀ j, j < 16 → e j ≤ 255)
    (hnode : ∀ W, Hp W h g m n u C Z X → Calls Try.prog 42 #[.pointer (some ⟨h, 0, none⟩), .int .i64 (b : Int)] W (GivesN W e)) (Cs : Nat → Nat → Nat) (hC0 : Cs 0 = upd C b 0)
    (hkids : ∀ j, j < 16 → ∀ W, Hp W h g m n u (Cs j) Z X → Calls Try.prog 36 #[.pointer (some ⟨h, 0, none⟩), .int .i64 ((e j : Nat) : Int), .int .i64 (l : Int)] W (HpG W h g m n u (Cs (j + 1)) Z X (.int .i64 0))) :
    Calls Try.prog 36 #[.pointer (some ⟨h, 0, none⟩), .int .i64 (b : Int), .int .i64 ((l + 1 : Nat) : Int)] w (HpG w h g m n u (Cs 16) Z X (.int .i64 0)) := by
  rw [show ((l + 1 : Nat) : Int) = (l : Int) + 1 from rfl]
  have hS := H.small
  have cn := hnode w H
  have HE := Lib.hid he
  have t1 : ((b : Int) == 0) = false := by rw [beq_eq_false_iff_ne]; omega
  have t2 : (((l : Int) + 1) == 0) = false := by rw [beq_eq_false_iff_ne]; omega
  have t3 : ¬ ((l : Int) + 1 = 0) := by omega
  have t4 : ¬ ((b : Int) = 0) := by omega
  have HH := Lib.hid H
  have hgl := Lib.hid (H.lts g (.inr (.inl rfl)))
  have hDEC : Hid (∀ W, Hp W h g m n u C Z X → Calls Try.prog 50 #[.pointer (some ⟨g, 0, none⟩), .int .i64 (b : Int)] W (GetsT W g n (upd C b (C b - 1)) (.tuple #[.int .i64 ((C b - 1 : Nat) : Int), .int .i64 0]))) := Lib.hid fun W hW => dec_good g n C b W hW.t hS h3 hb (by omega)
  clear hnode he
  go_enter Try.func36, Try.ntmps36
  go_wp2_with (fail)
  refine cn.mono ?_
  rintro x w3 ⟨rfl, b3⟩
  obtain ⟨g3, hg3⟩ : ∃ g3, w3.heap.size = g3 := ⟨_, rfl⟩
  have hst : (storeCells ⟨g3, 0, none⟩ (ndL e) 0).run Try.prog (w3.alloc (.cells #[.int .u8 0, .int .u8 0, .int .u8 0, .int .u8 0, .int .u8 0, .int .u8 0, .int .u8 0, .int .u8 0, .int .u8 0, .int .u8 0, .int .u8 0, .int .u8 0, .int .u8 0, .int .u8 0, .int .u8 0, .int .u8 0] 91)) = .ok () (w3.alloc (.cells (ndL e).toArray 91)) := by
    rw [← hg3]; exact run_storeCells_new (P := Try.prog) w3 91 nd0 (ndL e).toArray (nd_isa e) (by rw [nd_size]; rfl) (nd_one e)
  obtain ⟨w4, hw4⟩ : ∃ w4, w4 = w3.alloc (.cells (ndL e).toArray 91) := ⟨_, rfl⟩
  rw [← hw4] at hst
  have q4 : Below w3.heap.size w3 w4 := by rw [hw4]; exact (Below.refl _ _).alloc (Nat.le_refl _) _
  have HN4 : Hid (w4.heap[g3]? = some (.cells (ndL e).toArray 91 (0, 0))) := Lib.hid (by rw [hw4, ← hg3]; exact heap_alloc_new _ _)
  have HB4 : Hid (HTo w g m w4) := Lib.hid (HTo.quiet (b3.trans (q4.mono b3.size)))
  have H4 : Hid (Hp w4 h g m n u C Z X) := Lib.hid ((HH.out.below b3).below q4)
  have HS4 : Hid (w.heap.size ≤ g3 ∧ g3 < w4.heap.size ∧ g3 ≠ g) := Lib.hid (by
    have := b3.size; have := hgl.out
    rw [hw4, ← hg3]; simp; omega)
  have c1 := H4.out.c1
  have cd := hDEC.out w4 H4.out
  clear b3 q4 hw4 cn
  have hSU := Lib.hid (small_upd hS hb (v := C b - 1) (by have := hS.c b; omega))
  rw [hc] at cd hSU
  rw [show 1 - 1 = 0 from rfl] at cd hSU
  rw [← hC0] at cd hSU
  have HK := Lib.hid hkids
  clear hC0 hc hS hb H hkids
  go_wp2_with (fail)
  refine cd.mono ?_
  rintro x w5 ⟨rfl, t2⟩
  have K5 : HTo w g m w5 := HB4.out.trans (HTo.tab t2)
  have H5 := H4.out.tab t2 hSU.out
  have n5 : w5.heap[g3]? = some (.cells (ndL e).toArray 91 (0, 0)) := (t2.oth g3 HS4.out.2.1 HS4.out.2.2).trans HN4.out
  have hld5 := nd_cells n5
  have HX := Lib.hid (nd_idx e)
  have HK5 := Lib.hid K5
  have HH5 := Lib.hid H5
  have hz0 : (Try.prog.info? 91).map (·.size) = some 16 := (zero_of_info nd_zs).2
  have hwl : IntKind.i64.wrap ((l : Int) + 1 - 1) = (l : Int) := by simp [IntKind.wrap, IntKind.signed, IntKind.bits]; omega
  have hwl2 : (l : Int) + 1 - 1 = (l : Int) := by omega
  clear t2 K5 H5 n5 cd
  go_wp2_with (with_reducible refine wpList_load_run hld5 rfl _ rfl rfl ?_)
  clear hld5
  go_loopw [48, 11, 12] (fun t _ _ wr => ∃ k : Nat, k ≤ 16 ∧ t = .int .i64 (k : Int) ∧ HTo w g m wr ∧ Hp wr h g m n u (Cs k) Z X) (fun t _ _ _ => 16 - (intOf t).toNat)
  case atStart => exact ⟨0, by omega, rfl, HK5.out, HH5.out⟩
  case round =>
    obtain ⟨k, hk, rfl, hTo, hH⟩ := hrel
    by_cases hlt : k < 16
    · have t1 : (k : Int) < 16 := by omega
      have hix := fun W => HX.out k hlt W
      have cc := HK.out k hlt wr hH
      have hei := HE.out k hlt
      have hwr : IntKind.i64.wrap ((e k : Nat) : Int) = ((e k : Nat) : Int) := by simp [IntKind.wrap, IntKind.signed, IntKind.bits]; omega
      have HT := Lib.hid hTo
      clear hTo hH
      generalize e k = q at *
      generalize (ndL e).toArray = es at *
      go_wp2_with (fail)
      refine cc.mono ?_
      rintro x w6 ⟨rfl, T6, H6⟩
      have HT6 := Lib.hid (HT.out.trans T6)
      have HH6 := Lib.hid H6
      clear T6 H6 cc
      go_wp2_with (fail)
      go_roundw
      case rel => exact ⟨k + 1, by omega, by go_num, HT6.out, HH6.out⟩
      case measure => simp [intOf]; omega
    · obtain rfl : k = 16 := by omega
      have hfin := Lib.hid hTo
      have hfin2 := Lib.hid hH
      clear hTo hH
      go_wp2_with (fail)
      go_ret
      exact ⟨rfl, hfin.out, hfin2.out⟩
end
section
variable {h g m n : Nat} {u : Value} {H : Nat → Prop} {lv pos : Nat → Nat}
/-- What Drop leaves. -/
structure Gone (Y Y' : Tri.TW ByteArray) (ext0 : Nat → Nat) (G G' H : Nat → Prop) (lv pos : Nat → Nat) : Prop where
  ok : Tri.Ok ntext Y' ext0 G' H lv pos
  keep : Tri.Keep Y Y' ext0 G lv pos G' lv pos H
  t : Y'.T = Y.T
  e : Y'.σ.e = Y.σ.e
  c : ∀ x, 0 < Y'.σ.c x → 0 < Y.σ.c x
theorem Gone.trans {Y Y1 Y2 : Tri.TW ByteArray} {e0 e1 : Nat → Nat} {G G1 G2 : Nat → Prop} (a : Gone Y Y1 e1 G G1 H lv pos) (b : Gone Y1 Y2 e0 G1 G2 H lv pos) (h : ∀ x, 0 < e0 x → 0 < e1 x) : Gone Y Y2 e0 G G2 H lv pos :=
  ⟨b.ok, (a.keep.mono h).trans b.keep fun _ z => z, b.t.trans a.t, b.e.trans a.e, fun x hx => a.c x (b.c x hx)⟩
theorem drop_lv (h g m n : Nat) (u : Value) (Z : Int → Bool) : ∀ (l : Nat) {Y : Tri.TW ByteArray} {ext0 : Nat → Nat} {G : Nat → Prop} {b : Nat}, l ≤ 3 →
    Tri.Ok ntext Y (Tri.plus ext0 (Tri.oneZ b)) G H lv pos → (b ≠ 0 → lv b = l) → (∀ x, 0 < Y.σ.c x → x < n) →
    ∃ Y' G', Gone Y Y' ext0 G G' H lv pos ∧ ∀ w, Hp w h g m n u (cOf Y.σ.c) Z Y.T → Calls Try.prog 36 #[.pointer (some ⟨h, 0, none⟩), .int .i64 (b : Int), .int .i64 (l : Int)] w (HpG w h g m n u (cOf Y'.σ.c) Z Y.T (.int .i64 0)) := by
  intro l
  induction l with
  | zero =>
    intro Y ext0 G b hl ok hlp hlt
    have ok' : Tri.Ok ntext Y (Tri.plus (Tri.plus ext0 (Tri.oneZ 0)) (Tri.oneZ b)) G H lv pos := ok.congrE fun x => by unfold Tri.plus; rw [Tri.oneZ_zero]; rfl
    obtain ⟨Y', G', c1, c2, c3, c4, c5, c6⟩ := leaf_spec (n := n) (P := pos b) h g m u Z 0 ok' (fun z => absurd rfl z) (fun h0 => ⟨hlp h0, rfl⟩) hlt
    refine ⟨Y', G', ⟨c1.ok.congrE fun x => by unfold Tri.plus; rw [Tri.oneZ_zero]; rfl, c1.keep, c2, c3, c4⟩, fun w hw => ?_⟩
    have := c6 w hw
    rw [c2] at this
    exact drop_rel _ _ (.inr rfl) this
  | succ l ih =>
    intro Y ext0 G b hl ok hlp hlt
    by_cases hb : b = 0
    · subst hb
      have ok' : Tri.Ok ntext Y ext0 G H lv pos := ok.congrE fun x => by unfold Tri.plus; rw [Tri.oneZ_zero]; rfl
      exact ⟨Y, G, ⟨ok', ⟨fun x hx => ⟨ok'.i.ex x hx, rfl, rfl, fun _ => rfl⟩, fun y hy hl => ⟨hy, hl, rfl, rfl⟩, fun _ _ => ⟨rfl, rfl⟩⟩, rfl, rfl, fun _ z => z⟩, fun w hw =>
        drop_rel _ _ (.inl rfl) ((release_none w h).mono fun x w' k => ⟨k.1, by rw [← k.2]; exact HTo.refl _ _ _, by rw [← k.2]; exact hw⟩)⟩
    · rw [Tri.oneZ_pos hb] at ok
      have hlb := hlp hb
      have hG := ok.i.ex b (by
        show 0 < _ + Tri.one b b
        rw [Tri.one_same]; omega)
      have h3 := (ok.i.rng b (.inl hG)).1
      have hc0 := (ok.i.all b).2 (.inl hG)
      have hbn := hlt b hc0
      have hnode : ∀ W, Hp W h g m n u (cOf Y.σ.c) Z Y.T → Calls Try.prog 42 #[.pointer (some ⟨h, 0, none⟩), .int .i64 (b : Int)] W (GivesN W (Y.σ.e b)) := fun W hW => hp_node hW ok hlt hG (by omega)
      have hkk := ok.i.kids hG hlb
      by_cases hc : Y.σ.c b = 1
      · -- the last reference
        obtain ⟨ok1, k1⟩ := ok.drop_node (X' := ⟨⟨upd Y.σ.c b 0, Y.σ.e⟩, Y.T⟩) hc (by omega) rfl rfl (by show upd _ _ _ _ = 0; unfold upd; rw [if_pos rfl]) (fun x hx => by show upd _ _ _ _ = _; unfold upd; rw [if_neg hx])
        have hlt1 : ∀ x, 0 < upd Y.σ.c b 0 x → 0 < Y.σ.c x := fun x hx => by
          unfold upd at hx
          split at hx
          · omega
          · exact hx
        have hlist : ∀ d j (Y1 : Tri.TW ByteArray) (G1 : Nat → Prop), d + j = 16 → Tri.Ok ntext Y1 (Tri.plus ext0 (Tri.kidsF (Y.σ.e b) d j)) G1 H lv pos → (∀ x, 0 < Y1.σ.c x → x < n) → Y1.T = Y.T →
            ∃ (Ys : Nat → Tri.TW ByteArray) (G' : Nat → Prop), Ys j = Y1 ∧ Gone Y1 (Ys 16) ext0 G1 G' H lv pos ∧ ∀ i, j ≤ i → i < 16 → ∀ W, Hp W h g m n u (cOf (Ys i).σ.c) Z Y.T → Calls Try.prog 36 #[.pointer (some ⟨h, 0, none⟩), .int .i64 ((Y.σ.e b i : Nat) : Int), .int .i64 (l : Int)] W (HpG W h g m n u (cOf (Ys (i + 1)).σ.c) Z Y.T (.int .i64 0)) := by
          intro d
          induction d with
          | zero =>
            intro j Y1 G1 hj ok1 hlt1 hT
            have ok2 : Tri.Ok ntext Y1 ext0 G1 H lv pos := ok1.congrE fun x => by unfold Tri.plus Tri.kidsF; rfl
            exact ⟨fun _ => Y1, G1, rfl, ⟨ok2, ⟨fun x hx => ⟨ok2.i.ex x hx, rfl, rfl, fun _ => rfl⟩, fun y hy hl => ⟨hy, hl, rfl, rfl⟩, fun _ _ => ⟨rfl, rfl⟩⟩, rfl, rfl, fun _ z => z⟩, fun i h1 h2 => by omega⟩
          | succ d ihd =>
            intro j Y1 G1 hj ok1 hlt1 hT
            have ok2 : Tri.Ok ntext Y1 (Tri.plus (Tri.plus ext0 (Tri.kidsF (Y.σ.e b) d (j + 1))) (Tri.oneZ (Y.σ.e b j))) G1 H lv pos := ok1.congrE fun x => by
              show ext0 x + (Tri.oneZ (Y.σ.e b j) x + Tri.kidsF (Y.σ.e b) d (j + 1) x) = ext0 x + Tri.kidsF (Y.σ.e b) d (j + 1) x + Tri.oneZ (Y.σ.e b j) x
              omega
            obtain ⟨Y2, G2, g2, c2⟩ := ih (by omega) ok2 (fun hne => (hkk j (by omega) hne).2.1) hlt1
            obtain ⟨Ys, G', e1, g3, c3⟩ := ihd (j + 1) Y2 G2 (by omega) g2.ok (fun x hx => hlt1 x (g2.c x hx)) (g2.t.trans hT)
            refine ⟨fun i => if i = j then Y1 else Ys i, G', if_pos rfl, ?_, fun i h1 h2 W hW => ?_⟩
            · show Gone Y1 (if 16 = j then Y1 else Ys 16) ext0 G1 G' H lv pos
              rw [if_neg (by omega)]
              exact g2.trans g3 fun x hx => by unfold Tri.plus; omega
            · by_cases e : i = j
              · subst e
                have hW : Hp W h g m n u (cOf (if i = i then Y1 else Ys i).σ.c) Z Y.T := hW
                rw [if_pos rfl] at hW
                show Calls _ _ _ _ (HpG W h g m n u (cOf (if i + 1 = i then Y1 else Ys (i + 1)).σ.c) Z Y.T (.int .i64 0))
                rw [if_neg (by omega), e1, ← hT]
                rw [← hT] at hW
                exact c2 W hW
              · have hW : Hp W h g m n u (cOf (if i = j then Y1 else Ys i).σ.c) Z Y.T := hW
                rw [if_neg e] at hW
                show Calls _ _ _ _ (HpG W h g m n u (cOf (if i + 1 = j then Y1 else Ys (i + 1)).σ.c) Z Y.T (.int .i64 0))
                rw [if_neg (by omega)]
                exact c3 i (by omega) h2 W hW
        obtain ⟨Ys, G', e1, g1, c1⟩ := hlist 16 0 ⟨⟨upd Y.σ.c b 0, Y.σ.e⟩, Y.T⟩ _ rfl ok1 (fun x hx => hlt x (hlt1 x hx)) rfl
        refine ⟨Ys 16, G', ⟨g1.ok, k1.trans g1.keep fun _ z => z, g1.t, g1.e, fun x hx => hlt1 x (g1.c x hx)⟩, fun w hw => ?_⟩
        refine drop_last hw l (by omega) h3 hbn (by rw [cOf_hi h3]; exact hc) (Y.σ.e b) ((kids_ents ok hkk hlt).le hw.small.n200) hnode (fun i => cOf (Ys i).σ.c) ?_ (fun j hj W hW => c1 j (by omega) hj W hW)
        show cOf (Ys 0).σ.c = _
        rw [e1, cOf_upd _ h3]
      · have hc2 : 2 ≤ Y.σ.c b := by omega
        obtain ⟨ok1, k1⟩ := ok.dec_ (X' := ⟨⟨upd Y.σ.c b (Y.σ.c b - 1), Y.σ.e⟩, Y.T⟩) hc2 rfl rfl (fun x => by
          show upd Y.σ.c b (Y.σ.c b - 1) x + _ = _
          unfold upd
          by_cases e : x = b
          · subst e; rw [if_pos rfl, Tri.one_same]; omega
          · rw [if_neg e, Tri.one_other e]; rfl)
        refine ⟨_, _, ⟨ok1, k1, rfl, rfl, fun x hx => ?_⟩, fun w hw => ?_⟩
        · have hx : 0 < upd Y.σ.c b (Y.σ.c b - 1) x := hx
          unfold upd at hx
          by_cases e : x = b
          · subst e; omega
          · rw [if_neg e] at hx; exact hx
        · have := drop_more hw l (by omega) h3 hbn (by rw [cOf_hi h3]; exact hc2) (Y.σ.e b) ((kids_ents ok hkk hlt).le hw.small.n200) hnode
          rw [cOf_hi h3, cOf_upd _ h3] at this
          exact this
theorem Drop_spec (h g m n : Nat) (u : Value) (Z : Int → Bool) {Y : Tri.TW ByteArray} {ext0 : Nat → Nat} {G : Nat → Prop} {b : Nat}
    (ok : Tri.Ok ntext Y (Tri.plus ext0 (Tri.oneZ b)) G H lv pos) (hb : b ≠ 0 → lv b = 3) (hlt : ∀ x, 0 < Y.σ.c x → x < n) :
    ∃ Y' G', Gone Y Y' ext0 G G' H lv pos ∧ ∀ w, Hp w h g m n u (cOf Y.σ.c) Z Y.T → Calls Try.prog 14 #[.pointer (some ⟨h, 0, none⟩), .int .i64 (b : Int)] w (HpG w h g m n u (cOf Y'.σ.c) Z Y'.T (.int .i64 0)) := by
  obtain ⟨Y', G', c1, c2⟩ := drop_lv h g m n u Z 3 (by omega) ok hb hlt
  refine ⟨Y', G', c1, fun w hw => ?_⟩
  have cd := c2 w hw
  rw [← c1.t] at cd
  clear c2 hw ok
  go_enter Try.func14, Try.ntmps14
  go_wp2_with (fail)
  refine cd.mono ?_
  rintro x w2 ⟨rfl, T2, H2⟩
  have hfin := Lib.hid T2
  have hfin2 := Lib.hid H2
  clear T2 H2
  go_wp2_with (fail)
  go_ret
  exact ⟨rfl, hfin.out, hfin2.out⟩
end
end Go.Proofs.Ytlbjfigdocbffaa
