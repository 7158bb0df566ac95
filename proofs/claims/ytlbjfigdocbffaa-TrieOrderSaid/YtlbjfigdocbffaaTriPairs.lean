/- trie: Pairs. -/
import Derived.Test.YtlbjfigdocbffaaTriDrop
import Derived.Test.YtlbjfigdocbffaaRowOps
namespace Go.Proofs.Ytlbjfigdocbffaa
open Go.RowKit
set_option linter.unusedVariables false
set_option linter.unusedSimpArgs false

def pairE : Enc (Nat × Nat) := ⟨2, fun p => [.int .i64 (p.1 : Int), .int .i64 (p.2 : Int)], by decide, fun _ => rfl, fun a u h => by
  simp at h; rcases h with rfl | rfl <;> rfl⟩
theorem pair_info : (Try.prog.info? 69).map (fun i => (i.zero, i.size, i.bytes)) = some (some (.agg #[.int .i64 0, .int .i64 0]), 2, 16) := by kernel_rfl
theorem pair_sizes : ∃ i, Try.prog.info? 69 = some i ∧ i.zero = some (.agg #[.int .i64 0, .int .i64 0]) ∧ i.size = 2 ∧ i.bytes = 16 := (info_gen pair_info).2
/-- The keys that have a block, with their blocks. -/
def pairsL (e : Nat → Nat → Nat) : Nat → Nat → Nat → List (Nat × Nat)
  | 0, b, f => if b = 0 then [] else [(f, b)]
  | l + 1, b, f => if b = 0 then [] else (List.range 16).flatMap fun i => pairsL e l (e b i) (f * 16 + i)
theorem fmap_congr {α β : Type} {f g : α → Option β} : ∀ l : List α, (∀ x ∈ l, f x = g x) → l.filterMap f = l.filterMap g
  | [], _ => rfl
  | a :: l, h => by
    rw [List.filterMap_cons, List.filterMap_cons, h a (by simp), fmap_congr l fun x hx => h x (by simp [hx])]
theorem pairsL_zero (e : Nat → Nat → Nat) : ∀ l f, pairsL e l 0 f = []
  | 0, _ => rfl
  | l + 1, _ => rfl
theorem flat_le {α : Type} (g : Nat → List α) (m : Nat) (h : ∀ i, (g i).length ≤ m) : ∀ k, ((List.range k).flatMap g).length ≤ k * m
  | 0 => by simp
  | k + 1 => by
    rw [List.range_succ, List.flatMap_append, List.length_append, Nat.succ_mul, List.flatMap_cons, List.flatMap_nil, List.append_nil]
    have := flat_le g m h k
    have := h k
    omega
theorem pairsL_len (e : Nat → Nat → Nat) : ∀ l b f, (pairsL e l b f).length ≤ 16 ^ l
  | 0, b, f => by unfold pairsL; split <;> simp
  | l + 1, b, f => by
    unfold pairsL
    split
    · simp
    · have := flat_le (fun i => pairsL e l (e b i) (f * 16 + i)) (16 ^ l) (fun i => pairsL_len e l _ _) 16
      rw [Nat.pow_succ]; omega
def GivesP (w : World) (l : List (Nat × Nat)) (x : Ending) (w' : World) : Prop := ∃ v, x = .returned (.tuple #[v, .int .i64 0]) ∧ OwnE pairE w' w.heap.size 69 v l ∧ Below w.heap.size w w'
section
variable {w w' : World} {h g m n : Nat} {u : Value} {C : Nat → Nat} {Z : Int → Bool} {X : Nat → ByteArray} {b l f : Nat}
theorem pairs_zero (w : World) (h : Nat) (l f : Int) : Calls Try.prog 48 #[.pointer (some ⟨h, 0, none⟩), .int .i64 0, .int .i64 l, .int .i64 f] w (GivesP w []) := by
  go_enter Try.func48, Try.ntmps48
  go_wp2_with (fail)
  go_ret2
  exact ⟨_, rfl, OwnE.nil _ _ _ _, Below.refl _ _⟩
theorem pairs_leaf (w : World) (h b f : Nat) (hb : b ≠ 0) : Calls Try.prog 48 #[.pointer (some ⟨h, 0, none⟩), .int .i64 (b : Int), .int .i64 0, .int .i64 (f : Int)] w (GivesP w [(f, b)]) := by
  have t1 : ((b : Int) == 0) = false := by rw [beq_eq_false_iff_ne]; omega
  have ho := Lib.hid (OwnE.lit pairE w 69 [(f, b)] #[.int .i64 (f : Int), .int .i64 (b : Int)] rfl (by unfold maxLen; simp))
  have hB : Hid (Below w.heap.size w (w.alloc (.cells #[.int .i64 (f : Int), .int .i64 (b : Int)] 69))) := Lib.hid ((Below.refl _ _).alloc (Nat.le_refl _) _)
  clear hb
  go_enter Try.func48, Try.ntmps48
  go_wp2_with (fail)
  go_ret2
  exact ⟨_, rfl, ho.out, hB.out⟩
set_option maxRecDepth 100000 in
set_option maxHeartbeats 2000000 in
theorem pairs_node (H : Hp w h g m n u C Z X) (l : Nat) (hl3 : l < 3) (hb : b ≠ 0) (f : Nat) (hf : f ≤ 4096) (e : Nat → Nat) (he : ∀ j, j < 16 → e j ≤ 255)
    (hnode : ∀ W, Hp W h g m n u C Z X → Calls Try.prog 42 #[.pointer (some ⟨h, 0, none⟩), .int .i64 (b : Int)] W (GivesN W e)) (L : Nat → List (Nat × Nat)) (hL : ∀ i, (L i).length ≤ 256)
    (hkids : ∀ j, j < 16 → ∀ W, Hp W h g m n u C Z X → Calls Try.prog 48 #[.pointer (some ⟨h, 0, none⟩), .int .i64 ((e j : Nat) : Int), .int .i64 (l : Int), .int .i64 ((f * 16 + j : Nat) : Int)] W (GivesP W (L j))) :
    Calls Try.prog 48 #[.pointer (some ⟨h, 0, none⟩), .int .i64 (b : Int), .int .i64 ((l + 1 : Nat) : Int), .int .i64 (f : Int)] w (GivesP w ((List.range 16).flatMap L)) := by
  rw [show ((l + 1 : Nat) : Int) = (l : Int) + 1 from rfl]
  have cn := hnode w H
  have HE := Lib.hid he
  have HK := Lib.hid hkids
  have t1 : ((b : Int) == 0) = false := by rw [beq_eq_false_iff_ne]; omega
  have t2 : (((l : Int) + 1) == 0) = false := by rw [beq_eq_false_iff_ne]; omega
  have t3 : ¬ ((l : Int) + 1 = 0) := by omega
  have t4 : ¬ ((b : Int) = 0) := by omega
  have HH := Lib.hid H
  have hwl : IntKind.i64.wrap ((l : Int) + 1 - 1) = (l : Int) := by simp [IntKind.wrap, IntKind.signed, IntKind.bits]; omega
  have hwf : IntKind.i64.wrap ((f : Int) * 16) = ((f * 16 : Nat) : Int) := by rw [IntWalk.i64_in _ (by omega)]; omega
  have hFL := Lib.hid (flat_le L 256 hL)
  have hLL := Lib.hid hL
  clear hnode he hkids H hb hL
  go_enter Try.func48, Try.ntmps48
  go_wp2_with (fail)
  refine cn.mono ?_
  rintro x w3 ⟨rfl, b3⟩
  obtain ⟨g3, hg3⟩ : ∃ g3, w3.heap.size = g3 := ⟨_, rfl⟩
  have hst : (storeCells ⟨g3, 0, none⟩ (ndL e) 0).run Try.prog (w3.alloc (.cells #[.int .u8 0, .int .u8 0, .int .u8 0, .int .u8 0, .int .u8 0, .int .u8 0, .int .u8 0, .int .u8 0, .int .u8 0, .int .u8 0, .int .u8 0, .int .u8 0, .int .u8 0, .int .u8 0, .int .u8 0, .int .u8 0] 91)) = .ok () (w3.alloc (.cells (ndL e).toArray 91)) := by
    rw [← hg3]; exact run_storeCells_new (P := Try.prog) w3 91 nd0 (ndL e).toArray (nd_isa e) (by rw [nd_size]; rfl) (nd_one e)
  obtain ⟨w4, hw4⟩ : ∃ w4, w4 = w3.alloc (.cells (ndL e).toArray 91) := ⟨_, rfl⟩
  rw [← hw4] at hst
  have q4 : Below w3.heap.size w3 w4 := by rw [hw4]; exact (Below.refl _ _).alloc (Nat.le_refl _) _
  have HN4 : w4.heap[g3]? = some (.cells (ndL e).toArray 91 (0, 0)) := by rw [hw4, ← hg3]; exact heap_alloc_new _ _
  have hld4 := nd_cells HN4
  have HB4 : Hid (Below w.heap.size w w4) := Lib.hid (b3.trans (q4.mono b3.size))
  have HX := Lib.hid (nd_idx e)
  have hz0 : (Try.prog.info? 91).map (·.size) = some 16 := (zero_of_info nd_zs).2
  clear b3 q4 hw4 cn HN4
  go_upto_region 9 with (fail)
  clear hg3 hst
  go_wp2_with (with_reducible refine wpList_load_run hld4 rfl _ rfl rfl ?_)
  clear hld4
  go_loopw [35, 12, 13, 14, 15, 16] (fun t v _ _ _ _ wr => ∃ k : Nat, k ≤ 16 ∧ t = .int .i64 (k : Int) ∧ OwnE pairE wr w.heap.size 69 v ((List.range k).flatMap L) ∧ Below w.heap.size w wr) (fun t _ _ _ _ _ _ => 16 - (intOf t).toNat)
  case atStart => exact ⟨0, by omega, rfl, OwnE.nil _ _ _ _, HB4.out⟩
  case round =>
    obtain ⟨k, hk, rfl, hO, hB⟩ := hrel
    by_cases hlt : k < 16
    · have t1 : (k : Int) < 16 := by omega
      have hix := fun W => HX.out k hlt W
      have cc := HK.out k hlt wr (HH.out.below hB)
      have hei := HE.out k hlt
      have hwr : IntKind.i64.wrap ((e k : Nat) : Int) = ((e k : Nat) : Int) := by simp [IntKind.wrap, IntKind.signed, IntKind.bits]; omega
      have hwk : IntKind.i64.wrap (((f * 16 : Nat) : Int) + (k : Int)) = ((f * 16 + k : Nat) : Int) := by rw [IntWalk.i64_in _ (by omega)]; omega
      have hO' := Lib.hid hO
      have hB' := Lib.hid hB
      clear hO hB
      generalize e k = q at *
      generalize (ndL e).toArray = es at *
      go_wp2_with (fail)
      refine cc.mono ?_
      rintro x w6 ⟨v6, rfl, o6, b6⟩
      obtain ⟨ii, hi, hz, hs, hy⟩ := pair_sizes
      obtain ⟨v7, w7, hap, o7, b7, _⟩ := OwnE.pushAll (P := Try.prog) (S := 63) Try.underlying63 hi hz hs hy rfl (hO'.out.after b6) o6.reads (Nat.le_trans hB'.out.size b6.size) (by have := hFL.out k; have := hLL.out k; omega) (by have := hFL.out k; have := hLL.out k; omega)
      have HB7 : Hid (Below w.heap.size w w7) := Lib.hid ((hB'.out.trans (b6.mono hB'.out.size)).trans b7)
      have HO7 := Lib.hid o7
      clear o6 b6 o7 b7 hi hz hs hy cc
      go_wp2_with (at_builtin; refine wpList_append_run hap _ _ rfl rfl rfl rfl rfl ?_)
      go_roundw
      case rel => exact ⟨k + 1, by omega, by go_num, by rw [List.range_succ, List.flatMap_append]; simpa using HO7.out, HB7.out⟩
      case measure => simp [intOf]; omega
    · obtain rfl : k = 16 := by omega
      have hfin := Lib.hid hB
      have hfin2 := Lib.hid hO
      clear hB hO
      go_wp2_with (fail)
      go_ret2
      exact ⟨_, rfl, hfin2.out, hfin.out⟩
end
section
variable {w : World} {h g m n : Nat} {u : Value} {Y : Tri.TW ByteArray} {Z : Int → Bool} {ext : Nat → Nat} {G H : Nat → Prop} {lv pos : Nat → Nat}
theorem pairs_lv (ok : Tri.Ok ntext Y ext G H lv pos) (hlt : ∀ x, 0 < Y.σ.c x → x < n) : ∀ (l : Nat) (b f : Nat) (w : World), l ≤ 3 → f < 16 ^ (3 - l) → (b ≠ 0 → G b ∧ lv b = l) → Hp w h g m n u (cOf Y.σ.c) Z Y.T →
    Calls Try.prog 48 #[.pointer (some ⟨h, 0, none⟩), .int .i64 (b : Int), .int .i64 (l : Int), .int .i64 (f : Int)] w (GivesP w (pairsL Y.σ.e l b f))
  | 0, b, f, w, _, _, hb, hw => by
    unfold pairsL
    by_cases h0 : b = 0
    · subst h0; rw [if_pos rfl]; exact pairs_zero w h _ _
    · rw [if_neg h0]; exact pairs_leaf w h b f h0
  | l + 1, b, f, w, hl, hf, hb, hw => by
    unfold pairsL
    by_cases h0 : b = 0
    · subst h0; rw [if_pos rfl]; exact pairs_zero w h _ _
    · rw [if_neg h0]
      obtain ⟨hG, hlb⟩ := hb h0
      have hkk := ok.i.kids hG hlb
      have hf2 : f ≤ 4096 := by
        have h2 : 16 ^ (3 - (l + 1)) ≤ 16 ^ 3 := Nat.pow_le_pow_right (by omega) (by omega)
        omega
      refine pairs_node hw l (by omega) h0 f hf2 (Y.σ.e b) ((kids_ents ok hkk hlt).le hw.small.n200) (fun W hW => hp_node hW ok hlt hG (by omega)) (fun i => pairsL Y.σ.e l (Y.σ.e b i) (f * 16 + i)) (fun i => ?_) (fun j hj W hW => ?_)
      · have := pairsL_len Y.σ.e l (Y.σ.e b i) (f * 16 + i)
        have h2 : 16 ^ l ≤ 16 ^ 2 := Nat.pow_le_pow_right (by omega) (by omega)
        omega
      · refine pairs_lv ok hlt l _ _ W (by omega) ?_ (fun hne => ⟨(hkk j hj hne).1, (hkk j hj hne).2.1⟩) hW
        have h2 : 16 ^ (3 - l) = 16 ^ (3 - (l + 1)) * 16 := by rw [← Nat.pow_succ, show (3 - (l + 1)).succ = 3 - l by omega]
        omega
theorem Pairs_spec (ok : Tri.Ok ntext Y ext G H lv pos) (hlt : ∀ x, 0 < Y.σ.c x → x < n) (b : Nat) (hb : b ≠ 0 → G b ∧ lv b = 3) (w : World) (hw : Hp w h g m n u (cOf Y.σ.c) Z Y.T) :
    Calls Try.prog 34 #[.pointer (some ⟨h, 0, none⟩), .int .i64 (b : Int)] w (GivesP w (pairsL Y.σ.e 3 b 0)) := by
  have cd := pairs_lv ok hlt 3 b 0 w (by omega) (by omega) hb hw
  clear hw ok
  go_enter Try.func34, Try.ntmps34
  go_wp2_with (fail)
  refine cd.mono ?_
  rintro x w2 ⟨v, rfl, o2, b2⟩
  have hfin := Lib.hid o2
  have hfin2 := Lib.hid b2
  clear o2 b2
  go_wp2_with (fail)
  go_ret2
  exact ⟨_, rfl, hfin.out, hfin2.out⟩
/-- What is listed, by keys. -/
theorem pairsL_range (e : Nat → Nat → Nat) : ∀ l b f, pairsL e l b f = (List.range (16 ^ l)).filterMap fun k => if Tri.get e l b k = 0 then none else some (f * 16 ^ l + k, Tri.get e l b k)
  | 0, b, f => by
    unfold pairsL
    rw [Nat.pow_zero, show List.range 1 = [0] from rfl, List.filterMap_cons, List.filterMap_nil]
    have hg : Tri.get e 0 b 0 = b := rfl
    rw [hg]
    by_cases h : b = 0
    · rw [if_pos h, if_pos h]
    · rw [if_neg h, if_neg h, Nat.mul_one, Nat.add_zero]
  | l + 1, b, f => by
    unfold pairsL
    by_cases h : b = 0
    · rw [if_pos h]
      subst h
      symm
      rw [List.filterMap_eq_nil_iff]
      intro k _
      rw [Tri.get_zero, if_pos rfl]
    · rw [if_neg h]
      have hp : 0 < 16 ^ l := Nat.pos_of_ne_zero (by simp)
      have key : ∀ q, q ≤ 16 → (List.range q).flatMap (fun i => pairsL e l (e b i) (f * 16 + i)) = (List.range (16 ^ l * q)).filterMap fun k => if Tri.get e (l + 1) b k = 0 then none else some (f * 16 ^ (l + 1) + k, Tri.get e (l + 1) b k) := by
        intro q
        induction q with
        | zero => intro _; simp
        | succ q ih =>
          intro hq
          rw [List.range_succ, List.flatMap_append, ih (by omega), show 16 ^ l * (q + 1) = 16 ^ l * q + 16 ^ l from rfl, List.range_add, List.filterMap_append, List.flatMap_cons, List.flatMap_nil, List.append_nil, pairsL_range e l, List.filterMap_map]
          congr 1
          refine fmap_congr _ fun k hk => ?_
          have hk : k < 16 ^ l := by simpa using hk
          have h1 : (16 ^ l * q + k) / 16 ^ l % 16 = q := by
            rw [Nat.mul_add_div hp, Nat.div_eq_of_lt hk, Nat.add_zero, Nat.mod_eq_of_lt (by omega)]
          have h2 : Tri.get e (l + 1) b (16 ^ l * q + k) = Tri.get e l (e b q) k := by
            rw [Tri.get_succ h, h1]
            exact Tri.get_mod e l _ (by rw [Nat.mul_add_mod])
          show _ = (if Tri.get e (l + 1) b (16 ^ l * q + k) = 0 then none else some (f * 16 ^ (l + 1) + (16 ^ l * q + k), Tri.get e (l + 1) b (16 ^ l * q + k)))
          rw [h2]
          have h3 : (f * 16 + q) * 16 ^ l + k = f * 16 ^ (l + 1) + (16 ^ l * q + k) := by
            rw [Nat.add_mul, Nat.mul_assoc, Nat.pow_succ, Nat.mul_comm (16 ^ l) 16, Nat.mul_comm (16 ^ l) q]; omega
          rw [h3]
      rw [Nat.pow_succ]
      rw [key 16 (Nat.le_refl _), Nat.pow_succ]
end
end Go.Proofs.Ytlbjfigdocbffaa
