/- mat: the inverse. -/
import Derived.Test.YtcmnojflllcdfaaDoorMatMk
import Derived.Test.YtcmnojflllcdfaaDoorCls
import Derived.WalkMore
namespace Go.Proofs.YtcmnojflllcdfaaDoor
open Go.RowKit
set_option linter.unusedVariables false
set_option linter.unusedSimpArgs false

/-- Byte i of a text. -/
def bt (s : ByteArray) (i : Nat) : Nat := (s.data[i]?.getD 0).toNat
theorem bt_lt (s : ByteArray) (i : Nat) : bt s i < 256 := UInt8.toNat_lt _
theorem bt_get {s : ByteArray} {i : Nat} (h : i < s.size) : (s[i]).toNat = bt s i := by
  unfold bt; rw [Array.getElem?_eq_getElem (by simpa using h)]; rfl
/-- The first row from one on that is not nought at a place. -/
def pvt (l : List ByteArray) (c : Nat) : Nat → Nat → Nat
  | 0, at_ => at_
  | f + 1, at_ => if bt (l.getD at_ ⟨#[]⟩) c = 0 then pvt l c f (at_ + 1) else at_
theorem pvt_spec (l : List ByteArray) (c : Nat) : ∀ f k, k ≤ pvt l c f k ∧ pvt l c f k ≤ k + f ∧ (pvt l c f k < k + f → bt (l.getD (pvt l c f k) ⟨#[]⟩) c ≠ 0) ∧ ∀ j, k ≤ j → j < pvt l c f k → bt (l.getD j ⟨#[]⟩) c = 0
  | 0, k => ⟨Nat.le_refl _, Nat.le_refl _, fun h => absurd h (by simp [pvt]), fun j h1 h2 => absurd h2 (by simp [pvt]; omega)⟩
  | f + 1, k => by
    rw [pvt]
    by_cases h : bt (l.getD k ⟨#[]⟩) c = 0
    · rw [if_pos h]
      obtain ⟨h1, h2, h3, h4⟩ := pvt_spec l c f (k + 1)
      refine ⟨by omega, by omega, fun hh => h3 (by omega), fun j hj1 hj2 => ?_⟩
      by_cases e : j = k
      · subst e; exact h
      · exact h4 j (by omega) hj2
    · rw [if_neg h]
      exact ⟨Nat.le_refl _, by omega, fun _ => h, fun j h1 h2 => by omega⟩
set_option maxRecDepth 100000 in
set_option maxHeartbeats 1000000 in
theorem pivot_any (b off cap : Nat) (l : List ByteArray) (c : Nat) (w : World) (hS : SRow w b off l) (hL : l.length ≤ 1000) (hc : c ≤ l.length) (hm : ∀ i, i < l.length → c < (l.getD i ⟨#[]⟩).size ∧ (l.getD i ⟨#[]⟩).size ≤ 1000000) :
    Calls Tryd.prog 50 #[.slice (some ⟨b, off, none⟩) l.length cap, .int .i64 (c : Int)] w fun e w' => e = .returned (.int .i64 (pvt l c (l.length - c) c : Nat)) ∧ w = w' := by
  obtain ⟨p, hp⟩ : ∃ p, pvt l c (l.length - c) c = p := ⟨_, rfl⟩
  have hp' := Lib.hid hp
  rw [hp]
  clear hp
  go_enter Tryd.func50, Tryd.ntmps50
  go_wp2
  go_step3
  go_wp2
  go_step3
  go_wp2
  go_loopw [5, 19] (fun i _ wr => ∃ k : Nat, k ≤ l.length ∧ i = .int .i64 (k : Int) ∧ w = wr ∧ Hid (pvt l c (l.length - k) k = p)) (fun i _ _ => l.length - (intOf i).toNat)
  case atStart => exact ⟨c, by omega, rfl, rfl, hp'⟩
  case round =>
    obtain ⟨k, hk, rfl, rfl, hpk⟩ := hrel
    by_cases hlt : k < l.length
    · have hc1 := hS.cell k hlt
      have hmk := hm k hlt
      have b1 : (k : Int) < (l.length : Int) := by omega
      have hst := hpk.out
      rw [show l.length - k = (l.length - (k + 1)) + 1 by omega, pvt] at hst
      by_cases h0 : bt (l.getD k ⟨#[]⟩) c = 0
      · rw [if_pos h0] at hst
        have hst' := Lib.hid hst
        clear hst hpk
        generalize l.getD k ⟨#[]⟩ = rk at *
        obtain ⟨m1, m2⟩ := hmk
        have b2 : (c : Int) < (rk.size : Int) := by omega
        have t : (((rk[c]).toNat : Int) == 0) = true := by rw [bt_get m1, h0]; rfl
        clear h0
        go_wp2
        go_roundw
        case rel => exact ⟨k + 1, by omega, by go_num, (by first | rfl | trivial), hst'⟩
        case measure => simp [intOf]; omega
      · rw [if_neg h0] at hst
        have hst' := Lib.hid hst
        clear hst hpk
        generalize l.getD k ⟨#[]⟩ = rk at *
        obtain ⟨m1, m2⟩ := hmk
        have b2 : (c : Int) < (rk.size : Int) := by omega
        have t : (((rk[c]).toNat : Int) == 0) = false := by rw [bt_get m1, beq_eq_false_iff_ne]; omega
        clear h0
        go_wp2
        rw [Exit.noGoto_ret]
        go_ret
        exact ⟨by rw [hst'.out]; rfl, rfl⟩
    · have e : k = l.length := by omega
      subst e
      have hst := hpk.out
      rw [show l.length - l.length = 0 by omega, pvt] at hst
      have hst' := Lib.hid hst
      clear hst hpk
      go_wp2
      rw [Exit.noGoto_ret]
      go_ret
      exact ⟨by rw [← hst'.out]; rfl, rfl⟩

/-- The pivot's row, made 1 at the place; each other row, made nought there. -/
def ownRow (l : List ByteArray) (c : Nat) : ByteArray := mulAdd (zrow (l.getD c ⟨#[]⟩).size) (Gf.gi (bt (l.getD c ⟨#[]⟩) c)) (l.getD c ⟨#[]⟩)
def redRow (o : ByteArray) (c : Nat) (r : ByteArray) : ByteArray := mulAdd r (bt r c) o
def redTo (l : List ByteArray) (c : Nat) (o : ByteArray) (k : Nat) : List ByteArray := (l.take k).map (redRow o c) ++ l.drop k
def redL (l : List ByteArray) (c : Nat) : List ByteArray := (l.map (redRow (ownRow l c) c)).set c (ownRow l c)
theorem redTo_length (l : List ByteArray) (c : Nat) (o : ByteArray) (k : Nat) : (redTo l c o k).length = l.length := by simp [redTo]; omega
theorem redTo_zero (l : List ByteArray) (c : Nat) (o : ByteArray) : redTo l c o 0 = l := by simp [redTo]
theorem redTo_all (l : List ByteArray) (c : Nat) (o : ByteArray) : redTo l c o l.length = l.map (redRow o c) := by simp [redTo]
theorem redTo_at (l : List ByteArray) (c : Nat) (o : ByteArray) (k : Nat) : (redTo l c o k).getD k ⟨#[]⟩ = l.getD k ⟨#[]⟩ := by
  simp only [redTo, List.getD_eq_getElem?_getD]
  rw [List.getElem?_append]
  split
  · rename_i h
    rw [List.length_map, List.length_take] at h
    omega
  · rename_i h
    rw [List.length_map, List.length_take] at h
    rw [List.length_map, List.length_take, List.getElem?_drop]
    rcases Nat.lt_or_ge k l.length with h1 | h1
    · congr 2; omega
    · rw [List.getElem?_eq_none (by omega), List.getElem?_eq_none h1]
theorem redTo_succ (l : List ByteArray) (c : Nat) (o : ByteArray) {k : Nat} (h : k < l.length) : redTo l c o (k + 1) = (redTo l c o k).set k (redRow o c (l.getD k ⟨#[]⟩)) := by
  apply List.ext_getElem
  · rw [List.length_set, redTo_length, redTo_length]
  · intro j h1 h2
    rw [redTo_length] at h1
    rw [List.getElem_set]
    simp only [redTo, List.getElem_append, List.length_map, List.length_take, List.getElem_map, List.getElem_take, List.getElem_drop]
    by_cases e : k = j
    · subst e; rw [if_pos rfl, dif_pos (by omega), List.getD_eq_getElem?_getD, List.getElem?_eq_getElem h]; rfl
    · rw [if_neg e]
      by_cases e2 : j < k
      · rw [dif_pos (by omega), dif_pos (by omega)]
      · rw [dif_neg (by omega), dif_neg (by omega)]
        congr 1; omega
set_option maxRecDepth 100000 in
set_option maxHeartbeats 1000000 in
theorem reduce_any (g cap B : Nat) (l : List ByteArray) (c : Nat) (w : World) (ht : Tabs w) (hB : 2 ≤ B) (ho : Own w B 9 (.slice (some ⟨g, 0, none⟩) l.length cap) (tx l)) (hL : l.length ≤ 1000) (hc : c < l.length) (hm : ∀ i, i < l.length → c < (l.getD i ⟨#[]⟩).size ∧ (l.getD i ⟨#[]⟩).size ≤ 1000000) (h0 : bt (l.getD c ⟨#[]⟩) c ≠ 0) :
    Calls Tryd.prog 51 #[.slice (some ⟨g, 0, none⟩) l.length cap, .int .i64 (c : Int)] w fun e w' => e = .returned (.tuple #[]) ∧ Own w' B 9 (.slice (some ⟨g, 0, none⟩) l.length cap) (tx (redL l c)) ∧ Below B w w' := by
  have hgl := ho.lt
  have hcc := ho.cell (i := c) (by simpa using hc)
  rw [tx_getD l hc] at hcc
  have hmc := hm c hc
  obtain ⟨rc, hrc⟩ : ∃ r, l.getD c ⟨#[]⟩ = r := ⟨_, rfl⟩
  have hrl : Hid (redL l c = (l.map (redRow (ownRow l c) c)).set c (ownRow l c)) := Lib.hid rfl
  have hor : ownRow l c = mulAdd (zrow rc.size) (Gf.gi (bt rc c)) rc := by rw [ownRow, hrc]
  obtain ⟨o, hoo⟩ : ∃ o, ownRow l c = o := ⟨_, rfl⟩
  have hos : o.size = rc.size := by rw [← hoo, hor, mulAdd_size, zrow_size]
  rw [hrc] at hcc hmc h0
  rw [hoo] at hor
  rw [hoo] at hrl
  have hor' := Lib.hid hor
  obtain ⟨mc1, mc2⟩ := hmc
  have hgi := Gf.gi_lt (bt rc c)
  have hbl := bt_lt rc c
  have hinv := inv_some ((rc[c]).toNat : Int) w ht (by rw [bt_get mc1]; omega) (by rw [bt_get mc1]; omega)
  rw [show ((rc[c]).toNat : Int).toNat = bt rc c by rw [bt_get mc1]; omega] at hinv
  have hzs := fun W => zeros_any rc.size W (by omega)
  have hma := fun W hW => muladd_any (zrow rc.size) rc ((Gf.gi (bt rc c) : Nat) : Int) W hW (by omega) (by omega) (by rw [zrow_size]; unfold maxLen; omega) (by unfold maxLen; omega)
  rw [show ((Gf.gi (bt rc c) : Nat) : Int).toNat = Gf.gi (bt rc c) by omega, ← hor] at hma
  have b1 : (c : Int) < (l.length : Int) := by omega
  have b2 : (c : Int) < (rc.size : Int) := by omega
  clear hor hrc hoo
  go_enter Tryd.func51, Tryd.ntmps51
  go_wp2_with (go_at_call 42; ((with_reducible refine hinv.mono ?_); rintro e w3 ⟨rfl, rfl⟩))
  refine wp_region_cls (Below w.heap.size w) (by kernel_rfl) (by kernel_rfl) (Below.refl _ _).drew ?_
  intro Z f hne hD hE
  have hzc : ∀ z, (f z).cell? ⟨g, c, none⟩ = some (.string rc) := fun z => by rw [(hD z).cell (p := ⟨g, c, none⟩) hgl.2]; exact hcc
  have hzt : ∀ z, Tabs (f z) := fun z => ht.below (hD z) ht.two
  repeat (go_big_quiet_step (first
    | (go_at_call 55; exact toQB hD hE _ (hzs _))
    | (go_at_call 31; exact toQB hD hE _ (hma _ (hzt _)))))
  refine wpQuiet_nil ?_
  intro _ hw'
  obtain ⟨zq, hw''⟩ := hw'
  subst hw''
  have hz := hD zq
  clear hzc hzt hE
  generalize f zq = w6 at *
  clear hD
  have ho6 := ho.after hz
  have ht6 := ht.below hz ht.two
  go_wp2
  go_loopw [7, 8, 33] (fun _ _ i wr => ∃ k : Nat, k ≤ l.length ∧ i = .int .i64 (k : Int) ∧ Own wr B 9 (.slice (some ⟨g, 0, none⟩) l.length cap) (tx (redTo l c o k)) ∧ Below B w wr) (fun _ _ i _ => l.length - (intOf i).toNat)
  case atStart => exact ⟨0, by omega, rfl, by rw [redTo_zero]; exact ho6, hz.mono (by omega)⟩
  case round =>
    obtain ⟨k, hk, rfl, hown, hbel⟩ := hrel
    by_cases hlt : k < l.length
    · have hck := hown.cell (i := k) (by rw [List.length_map, redTo_length]; exact hlt)
      rw [tx_getD _ (by rw [redTo_length]; exact hlt), redTo_at] at hck
      have hmk := hm k hlt
      have htk : Tabs wr := ht.below hbel hB
      have hlk := hown.lt
      have b3 : (k : Int) < (l.length : Int) := by omega
      have hnx : Hid (tx (redTo l c o (k + 1)) = (tx (redTo l c o k)).set k (.string (redRow o c (l.getD k ⟨#[]⟩)))) := Lib.hid (by rw [redTo_succ _ _ _ hlt, tx, List.map_set])
      generalize l.getD k ⟨#[]⟩ = rk at *
      obtain ⟨m1, m2⟩ := hmk
      have b4 : (c : Int) < (rk.size : Int) := by omega
      have hbk := bt_lt rk c
      have hmk := muladd_any rk o ((rk[c]).toNat : Int) wr htk (by omega) (by rw [bt_get m1]; omega) (by unfold maxLen; omega) (by unfold maxLen; omega)
      rw [show ((rk[c]).toNat : Int).toNat = bt rk c by rw [bt_get m1]; omega] at hmk
      rw [show mulAdd rk (bt rk c) o = redRow o c rk from rfl] at hmk
      clear hma hinv
      go_wp2_with (go_at_call 31; ((with_reducible refine hmk.mono ?_); rintro e w7 ⟨rfl, hb7⟩; have hown7 := hown.after hb7; have hfz := hown7.frozen k; have hcl := hown7.cell (i := k) (by rw [List.length_map, redTo_length]; exact hlt)))
      go_roundw
      case rel => exact ⟨k + 1, by omega, by go_num, by rw [hnx.out]; exact hown7.set k _, (hbel.trans (hb7.mono (by omega))).setCell (by simp; omega) _⟩
      case measure => simp [intOf]; omega
    · have e : k = l.length := by omega
      subst e
      have hfz := hown.frozen c
      have hcl := hown.cell (i := c) (by rw [List.length_map, redTo_length]; exact hc)
      clear hma hinv
      go_wp2
      go_end0
      rw [redTo_all] at hown
      exact ⟨rfl, by rw [hrl.out, tx, List.map_set]; exact hown.set c _, hbel.setCell (by simp; omega) _⟩
end Go.Proofs.YtcmnojflllcdfaaDoor
