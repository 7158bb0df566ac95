/- rs's laws: what they lean on. -/
import Derived.Test.YtcmnojflllcdfaaDoorRsData
namespace Go.Proofs.YtcmnojflllcdfaaDoor
open Go.RowKit
set_option linter.unusedVariables false
set_option linter.unusedSimpArgs false

theorem Tryd.infoBo : (Tryd.prog.info? 4).map (fun i => (i.zero, i.size, i.bytes)) = some (some (.bool false), 1, 1) := by kernel_rfl
theorem pick3_any (c n : Int) (w : World) (h1 : -9223372036854775808 ≤ c) (h2 : c ≤ 9223372036854775807) (h3 : 1 ≤ n) (h4 : n ≤ 9223372036854775807) :
    Calls Tryd.prog 21 #[.int .i64 c, .int .i64 n] w fun e w' => e = .returned (.int .i64 (pk c n)) ∧ w = w' := by
  by_cases hc : c < 0
  · have hp : Hid (pk c n = -((c + 1).tmod n)) := Lib.hid (by unfold pk; rw [if_pos hc, ← Int.neg_tmod, Int.tmod_eq_emod_of_nonneg (by omega)])
    go_enter Tryd.func21, Tryd.ntmps21
    go_wp2
    go_ret
    exact ⟨by rw [hp.out]; rfl, rfl⟩
  · have hp : Hid (pk c n = c % n) := Lib.hid (by unfold pk; rw [if_neg hc])
    go_enter Tryd.func21, Tryd.ntmps21
    go_wp2
    go_ret
    exact ⟨by rw [hp.out]; rfl, rfl⟩

theorem pick3_nat (n m : Int) (h1 : -9223372036854775808 ≤ n) (h2 : n ≤ 9223372036854775807) (h3 : 1 ≤ m) (h4 : m ≤ 1000) :
    ∃ p : Nat, (p : Int) < m ∧ ∀ w, Calls Tryd.prog 21 #[.int .i64 n, .int .i64 m] w fun e w' => e = .returned (.int .i64 (p : Int)) ∧ w = w' := by
  have hr := pk_rng n m h3
  obtain ⟨p, hp⟩ := Int.eq_ofNat_of_zero_le hr.1
  refine ⟨p, by omega, fun w => ?_⟩
  rw [← hp]
  exact pick3_any n m w h1 h2 h3 (by omega)
/-- The parity of some data. -/
def parL (data : List ByteArray) (k m : Nat) : List ByteArray := mulL (mkM (cyEl m) m k) data
theorem alike_of_rect {l : List ByteArray} {n L : Nat} (h : Rect l n L) (h1 : 1 ≤ L) (h2 : L ≤ 4096) : alikeL l = true := alike_true fun i hi => by
  rw [h.l] at hi; rw [h.s i hi, h.s 0 (by omega)]; omega
theorem enc_good {data : List ByteArray} {k m L : Nat} (hd : Rect data k L) (k1 : 1 ≤ k) (k2 : k ≤ 8) (m1 : 1 ≤ m) (m2 : m ≤ 8) (L1 : 1 ≤ L) (L2 : L ≤ 4096) :
    encL data (m : Int) = parL data k m ∧ encE data (m : Int) = 0 ∧ Rect (parL data k m) m L := by
  have hb : encB data (m : Int) = true := by
    unfold encB; rw [hd.l, alike_of_rect hd L1 L2]; simp [fits8]; omega
  have ok := enc_mul hd k1 k2 m1 m2 L1 L2
  exact ⟨by rw [encL, if_pos hb, show ((m : Int)).toNat = m by omega, hd.l]; rfl, by rw [encE, if_pos hb], mulL_rect (mkM_rect (cyEl m) m k) hd k1 ok⟩
theorem idxTo_count (h : List Bool) : ∀ k, k ≤ h.length → (idxTo h k).length = (h.take k).count true
  | 0, _ => by simp [idxTo]
  | k + 1, hk => by
    have ih := idxTo_count h k (by omega)
    rw [idxTo_succ, List.take_succ_eq_append_getElem (by omega), List.count_append, ← ih, List.getD_eq_getElem?_getD, List.getElem?_eq_getElem (by omega)]
    simp only [Option.getD_some]
    cases h[k] <;> simp
theorem idxL_count (h : List Bool) : (idxL h).length = h.count true := by rw [idxL, idxTo_count h _ (Nat.le_refl _), List.take_length]
theorem idxL_true (h : List Bool) : ∀ x ∈ idxL h, h.getD x false = true := fun x hx => by
  simp [idxL, idxTo] at hx
  rw [List.getD_eq_getElem?_getD]; exact hx.2
/-- Shards of which those that are there are the word's. -/
structure Good (data : List ByteArray) (k m : Nat) (all : List ByteArray) (hv : List Bool) : Prop where
  la : all.length = k + m
  lh : hv.length = k + m
  h : ∀ i, i < k + m → hv.getD i false = true → all.getD i ⟨#[]⟩ = (wordL data k m).getD i ⟨#[]⟩
theorem Good.lt {data all : List ByteArray} {k m : Nat} {hv : List Bool} (g : Good data k m all hv) : ∀ x ∈ idxL hv, x < k + m := fun x hx => by
  have := idxL_lt hv x hx; rw [g.lh] at this; exact this
theorem Good.chosen {data all : List ByteArray} {k m : Nat} {hv : List Bool} (g : Good data k m all hv) : chL (idxL hv) all = chL (idxL hv) (wordL data k m) :=
  List.map_congr_left fun x hx => g.h x (g.lt x hx) (idxL_true hv x hx)
theorem Good.dec {data all : List ByteArray} {k m L : Nat} {hv : List Bool} (g : Good data k m all hv) (hd : Rect data k L) (k1 : 1 ≤ k) (k2 : k ≤ 8) (m1 : 1 ≤ m) (m2 : m ≤ 8) (L1 : 1 ≤ L) (L2 : L ≤ 4096) :
    decK (m : Int) all = k ∧ decO (m : Int) all hv = true := by
  have hw := word_rect hd k1 k2 m1 m2 L1 L2
  have hB : decB (m : Int) all hv = true := by
    unfold decB; rw [g.la, g.lh]; simp [fits8]; omega
  exact ⟨by unfold decK; rw [g.la]; omega, by rw [decO, hB, g.chosen, alike_of_rect (chL_rect hw g.lt rfl) L1 L2]; rfl⟩
theorem decode_core {data all : List ByteArray} {k m L : Nat} {hv : List Bool} (la : all.length = k + m) (lh : hv.length = k + m) (hal : alikeL (chL (idxL hv) all) = true)
    (hx : ∀ x ∈ (idxL hv).take k, x < k + m → all.getD x ⟨#[]⟩ = (wordL data k m).getD x ⟨#[]⟩) (hd : Rect data k L) (k1 : 1 ≤ k) (k2 : k ≤ 8) (m1 : 1 ≤ m) (m2 : m ≤ 8) (L1 : 1 ≤ L) (L2 : L ≤ 4096) (hc : k ≤ hv.count true) :
    decL (m : Int) all hv = data ∧ decE (m : Int) all hv = 0 := by
  have hK : decK (m : Int) all = k := by unfold decK; rw [la]; omega
  have hB : decB (m : Int) all hv = true := by
    unfold decB; rw [la, lh]; simp [fits8]; omega
  have hO : decO (m : Int) all hv = true := by rw [decO, hB, hal]; rfl
  rw [← idxL_count] at hc
  have hw := word_rect hd k1 k2 m1 m2 L1 L2
  have hI : decI (m : Int) all hv = (idxL hv).take k := by rw [decI, hK]
  have hl : ((idxL hv).take k).length = k := by rw [List.length_take]; omega
  have hn : ((idxL hv).take k).Nodup := (idxL_nodup hv).sublist (List.take_sublist _ _)
  have hr : ∀ x ∈ (idxL hv).take k, x < k + m := fun x hx => by have := idxL_lt hv x (List.mem_of_mem_take hx); rw [lh] at this; exact this
  have hch : chL ((idxL hv).take k) all = chL ((idxL hv).take k) (wordL data k m) := List.map_congr_left fun x hm => hx x hm (hr x hm)
  refine ⟨?_, by rw [decE, hO, hK, if_pos rfl, if_pos hc]⟩
  rw [decL, hO, hK, hI, show ((m : Int)).toNat = m by omega, decide_eq_true hc, show (true && true) = true from rfl, if_pos rfl, hch]
  exact (decode_back k1 k2 m2 hl hn hr hd (chL_rect hw hr hl) L1 L2 fun a j ha hj => by
    rw [← word_el hd k1 k2 m1 m2 L1 L2 (hr _ (getD_mem (by omega))) hj]
    apply Mx.F.ext
    rw [el_v, el_v, chL_get _ _ (by omega)]).1
theorem decode_good {data all : List ByteArray} {k m L : Nat} {hv : List Bool} (g : Good data k m all hv) (hd : Rect data k L) (k1 : 1 ≤ k) (k2 : k ≤ 8) (m1 : 1 ≤ m) (m2 : m ≤ 8) (L1 : 1 ≤ L) (L2 : L ≤ 4096) (hc : k ≤ hv.count true) :
    decL (m : Int) all hv = data ∧ decE (m : Int) all hv = 0 := by
  have hw := word_rect hd k1 k2 m1 m2 L1 L2
  exact decode_core g.la g.lh (by rw [g.chosen]; exact alike_of_rect (chL_rect hw g.lt rfl) L1 L2) (fun x hx hlt => g.h x hlt (idxL_true hv x (List.mem_of_mem_take hx))) hd k1 k2 m1 m2 L1 L2 hc
theorem idxL_all (n : Nat) : idxL (List.replicate n true) = List.range n := by
  unfold idxL idxTo
  rw [List.length_replicate]
  exact List.filter_eq_self.2 fun i hi => by
    have := List.mem_range.1 hi
    simp [List.getD_eq_getElem?_getD, this]
theorem rect_app {data par : List ByteArray} {k m L : Nat} (hd : Rect data k L) (hp : Rect par m L) : Rect (data ++ par) (k + m) L := ⟨by rw [List.length_append, hd.l, hp.l], fun i hi => by
  rcases Nat.lt_or_ge i k with h | h
  · rw [List.getD_eq_getElem?_getD, List.getElem?_append_left (by rw [hd.l]; exact h), ← List.getD_eq_getElem?_getD]; exact hd.s i h
  · rw [List.getD_eq_getElem?_getD, List.getElem?_append_right (by rw [hd.l]; exact h), hd.l, ← List.getD_eq_getElem?_getD]; exact hp.s _ (by omega)⟩
/-- All data there: they are told as they are. -/
theorem decode_first {data par : List ByteArray} {k m L : Nat} (hd : Rect data k L) (hp : Rect par m L) (k1 : 1 ≤ k) (k2 : k ≤ 8) (m1 : 1 ≤ m) (m2 : m ≤ 8) (L1 : 1 ≤ L) (L2 : L ≤ 4096) :
    decL (m : Int) (data ++ par) (List.replicate (k + m) true) = data ∧ decE (m : Int) (data ++ par) (List.replicate (k + m) true) = 0 := by
  have hr := rect_app hd hp
  refine decode_core hr.l (by simp) (alike_of_rect (chL_rect hr (fun x hx => by rw [idxL_all] at hx; exact List.mem_range.1 hx) rfl) L1 L2) (fun x hx _ => ?_) hd k1 k2 m1 m2 L1 L2 (by simp)
  rw [idxL_all, List.take_range] at hx
  have := List.mem_range.1 hx
  rw [wordL, List.getD_eq_getElem?_getD, List.getElem?_append_left (by rw [hd.l]; omega), List.getD_eq_getElem?_getD, List.getElem?_append_left (by rw [hd.l]; omega)]
theorem decode_few {data all : List ByteArray} {k m L : Nat} {hv : List Bool} (g : Good data k m all hv) (hd : Rect data k L) (k1 : 1 ≤ k) (k2 : k ≤ 8) (m1 : 1 ≤ m) (m2 : m ≤ 8) (L1 : 1 ≤ L) (L2 : L ≤ 4096) (hc : hv.count true < k) :
    decL (m : Int) all hv = [] ∧ decE (m : Int) all hv = 31 := by
  obtain ⟨hK, hO⟩ := g.dec hd k1 k2 m1 m2 L1 L2
  rw [← idxL_count] at hc
  exact ⟨by rw [decL, hO, hK, decide_eq_false (show ¬ k ≤ (idxL hv).length by omega)]; rfl, by rw [decE, hO, hK, if_pos rfl, if_neg (by omega)]⟩
theorem tx_app (a b : List ByteArray) : tx (a ++ b) = tx a ++ tx b := by simp [tx]
theorem tx_each (l : List ByteArray) : ∀ x ∈ tx l, x.oneCell' = true := fun x hx => by
  simp only [tx, List.mem_map] at hx
  obtain ⟨_, _, rfl⟩ := hx; rfl
/-- A copy of a list of texts. -/
theorem copy_tx {w : World} {v : Value} {a : List ByteArray} (h : Reads w v (tx a)) (hn : a.length ≤ 1000000) :
    ∃ v' w', (Builtin.append_ #[22, 22] 22 #[.slice none 0 0, v]).run Tryd.prog w = .ok v' w' ∧ Own w' w.heap.size 9 v' (tx a) ∧ Below w.heap.size w w' := by
  obtain ⟨i0, hi, hz0, hz1, hz2⟩ := info_parts Tryd.infoS
  exact Reads.copy_run (P := Tryd.prog) (T := 22) Tryd.underlying22 hi hz0 hz1 hz2 rfl h (tx_each a) (by simp only [tx, List.length_map]; omega) (by simp only [tx, List.length_map]; omega)
theorem push_tx {w : World} {B : Nat} {v u : Value} {a b : List ByteArray} (h : Own w B 9 v (tx a)) (hu : Reads w u (tx b)) (hB : B ≤ w.heap.size) (hn : a.length + b.length ≤ 1000000) :
    ∃ v' w', (Builtin.append_ #[22, 22] 22 #[v, u]).run Tryd.prog w = .ok v' w' ∧ Own w' B 9 v' (tx (a ++ b)) ∧ Below B w w' := by
  obtain ⟨i0, hi, hz0, hz1, hz2⟩ := info_parts Tryd.infoS
  obtain ⟨v', w', h1, h2, h3, _⟩ := Own.pushAll (P := Tryd.prog) (T := 22) Tryd.underlying22 hi hz0 hz1 hz2 rfl h hu (tx_each b) hB (by simp only [tx, List.length_map]; omega) (by simp only [tx, List.length_map]; omega)
  exact ⟨v', w', h1, by rw [tx_app]; exact h2, h3⟩
theorem word_run {w : World} {v u : Value} {a b : List ByteArray} (h : Reads w v (tx a)) (hu : Reads w u (tx b)) (hn : a.length + b.length ≤ 1000000) :
    ∃ v1 w1 v2 w2, (Builtin.append_ #[22, 22] 22 #[.slice none 0 0, v]).run Tryd.prog w = .ok v1 w1 ∧ (Builtin.append_ #[22, 22] 22 #[v1, u]).run Tryd.prog w1 = .ok v2 w2 ∧ Own w2 w.heap.size 9 v2 (tx (a ++ b)) ∧ Below w.heap.size w w2 := by
  obtain ⟨v1, w1, h1, h2, h3⟩ := copy_tx h (by omega)
  obtain ⟨v2, w2, k1, k2, k3⟩ := push_tx h2 (hu.below h3) h3.size hn
  exact ⟨v1, w1, v2, w2, h1, k1, k2, h3.trans k3⟩
/-- A row of answers, none given yet. -/
theorem have_run (w : World) (n : Nat) (hn : n ≤ 1000) :
    ∃ w', (Instr.makeSlice 30 (.int .i64 (n : Int)) (.int .i64 (n : Int))).run Tryd.prog w = .ok (.slice (some ⟨w.heap.size, 0, none⟩) n n) w' ∧ Own w' w.heap.size 4 (.slice (some ⟨w.heap.size, 0, none⟩) n n) (bv (List.replicate n false)) ∧ Below w.heap.size w w' := by
  obtain ⟨i0, hi, hz0, hz1, hz2⟩ := info_parts Tryd.infoBo
  obtain ⟨w', h1, h2, h3⟩ := Own.make_run (P := Tryd.prog) (T := 30) Tryd.underlying30 hi hz0 hz1 hz2 rfl w n (by omega) (by omega)
  exact ⟨w', h1, by simpa [bv] using h2, h3⟩
/-- The first q are there. -/
def hvTo (n q : Nat) : List Bool := List.replicate q true ++ List.replicate (n - q) false
theorem hvTo_length {n q : Nat} (h : q ≤ n) : (hvTo n q).length = n := by simp [hvTo]; omega
theorem hvTo_succ {n q : Nat} (h : q < n) : bv (hvTo n (q + 1)) = (bv (hvTo n q)).set q (.bool true) := by
  have e : hvTo n (q + 1) = (hvTo n q).set q true := by
    apply List.ext_getElem
    · rw [List.length_set, hvTo_length (by omega), hvTo_length (by omega)]
    · intro j h1 h2
      rw [hvTo_length (by omega)] at h1
      rw [List.getElem_set]
      simp only [hvTo, List.getElem_append, List.length_replicate, List.getElem_replicate]
      by_cases e : q = j
      · subst e; rw [if_pos rfl, dif_pos (by omega)]
      · rw [if_neg e]
        by_cases e2 : j < q
        · rw [dif_pos (by omega), dif_pos e2]
        · rw [dif_neg (by omega), dif_neg e2]
  rw [e, bv, bv, List.map_set]
theorem hvTo_zero (n : Nat) : hvTo n 0 = List.replicate n false := by simp [hvTo]
theorem hvTo_all (n : Nat) : hvTo n n = List.replicate n true := by simp [hvTo]
end Go.Proofs.YtcmnojflllcdfaaDoor
