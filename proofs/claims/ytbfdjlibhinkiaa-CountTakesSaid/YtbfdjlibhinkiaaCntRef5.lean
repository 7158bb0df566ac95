/- count: the document's table out of two texts. -/
import Derived.Test.YtbfdjlibhinkiaaCntRef4
namespace Go.Proofs.Ytbfdjlibhinkiaa
open Go.RowKit
set_option linter.unusedVariables false
set_option linter.unusedSimpArgs false

def OfR (w : World) (n : Nat) (a c : ByteArray) (e : Ending) (w' : World) : Prop :=
  if ofB n a c then RMade w n (ofK a c n) e w' else NoneT w e w'
theorem ofK_one (a c : ByteArray) (b i : Nat) (h : i < 3) : upd (ofK a c b) i 1 = ofK a c b := by
  funext j; simp only [upd, ofK]
  by_cases e : j = i
  · subst e; rw [if_pos rfl, if_pos h]
  · rw [if_neg e]
theorem ofK_step (a c : ByteArray) {b : Nat} (h3 : 3 ≤ b) : upd (ofK a c b) b (bothN a c b) = ofK a c (b + 1) := by
  unfold bothN
  by_cases h : b < 120
  · rw [if_pos h]; exact ofK_lo a c h3 h
  · rw [if_neg h]; exact ofK_hi a c h3 h
theorem bothN_le (a c : ByteArray) (i : Nat) : bothN a c i ≤ 255 := by unfold bothN; split <;> exact byteN_le _ _
/-- How far the counts are those of the texts. -/
def ofAt (n k : Nat) : Nat := if k < 3 then 3 else if k < n then k else n
theorem ofAt_lo {n k : Nat} (h8 : 8 ≤ n) (h : k < 3) : ofAt n k = ofAt n (k + 1) := by
  unfold ofAt
  repeat' split
  all_goals omega
theorem ofAt_mid {n k : Nat} (h8 : 8 ≤ n) (h : ¬ k < 3) (hn : k < n) : ofAt n k = k ∧ k + 1 = ofAt n (k + 1) := by
  unfold ofAt
  constructor
  all_goals repeat' split
  all_goals omega
theorem ofAt_hi {n k : Nat} (h8 : 8 ≤ n) (hn : ¬ k < n) : ofAt n k = ofAt n (k + 1) := by
  unfold ofAt
  repeat' split
  all_goals omega
theorem ofAt_end {n : Nat} (h : n ≤ 200) : ofAt n 240 = n := by
  unfold ofAt
  repeat' split
  all_goals omega
theorem size_append (a c : ByteArray) : (a ++ c).size = a.size + c.size := ByteArray.size_append
set_option maxRecDepth 100000 in
set_option maxHeartbeats 4000000 in
theorem rof_any (n : Nat) (v : Value) (a c : ByteArray) (w : World) (h1 : 8 ≤ n) (h2 : n ≤ 200) (hR : Reads w v [.string a, .string c]) (ha : a.size ≤ 140737488355328) (hc : c.size ≤ 140737488355328) :
    Calls Try.prog 31 #[.int .i64 (n : Int), v] w (OfR w n a c) := by
  have cN := fun W => rnew_good n W h1 h2
  have hR' : Reads w v ([a, c].map .string) := hR
  obtain ⟨pa, ca, rfl, cellA⟩ := hR'.items
  obtain ⟨xb, xo, rfl, hxb, hx0⟩ := cellA 0 (by simp)
  obtain ⟨_, _, e0, _, hx1⟩ := cellA 1 (by simp)
  cases e0
  have hxy : w.cell? ⟨xb, xo, none⟩ = some (.string a) := by simpa using hx0
  have hxz : w.cell? ⟨xb, xo + 1, none⟩ = some (.string c) := by simpa using hx1
  clear cellA hx0 hx1 hR hR'
  by_cases ha0 : a.size = 120
  case neg =>
    have t1 : (((a.size : Nat) : Int) != 120) = true := by rw [bne_iff_ne]; omega
    have HP : Hid (∀ e w', OfR w n a c e w' = NoneT w e w') := Lib.hid (fun e w' => by unfold OfR; rw [ofB_size n a c (.inl ha0)]; rfl)
    clear ha0
    go_enter Try.func31, Try.ntmps31
    go_wp2_with (fail)
    refine (cN _).mono ?_
    rintro e w1 ⟨p, h, rfl, hh, b1, t⟩
    have d0 : w1.cell? ⟨xb, xo, none⟩ = some (.string a) := by rw [b1.cell (p := ⟨xb, xo, none⟩) hxb]; exact hxy
    go_wp2_with (fail)
    go_ret2
    rw [HP.out]
    exact ⟨rfl, b1⟩
  by_cases hc0 : c.size = 120
  case neg =>
    have t1 : (((c.size : Nat) : Int) != 120) = true := by rw [bne_iff_ne]; omega
    have t2 : ((a.size : Nat) : Int) = 120 := by omega
    have HP : Hid (∀ e w', OfR w n a c e w' = NoneT w e w') := Lib.hid (fun e w' => by unfold OfR; rw [ofB_size n a c (.inr hc0)]; rfl)
    clear hc0
    go_enter Try.func31, Try.ntmps31
    go_wp2_with (fail)
    refine (cN _).mono ?_
    rintro e w1 ⟨p, h, rfl, hh, b1, t⟩
    have d0 : w1.cell? ⟨xb, xo, none⟩ = some (.string a) := by rw [b1.cell (p := ⟨xb, xo, none⟩) hxb]; exact hxy
    have d1 : w1.cell? ⟨xb, xo + 1, none⟩ = some (.string c) := by rw [b1.cell (p := ⟨xb, xo + 1, none⟩) hxb]; exact hxz
    go_wp2_with (fail)
    go_ret2
    rw [HP.out]
    exact ⟨rfl, b1⟩
  have t1 : ((a.size : Nat) : Int) = 120 := by omega
  have t2 : ((c.size : Nat) : Int) = 120 := by omega
  have hz : (a ++ c).size = 240 := by rw [size_append]; omega
  have hzI : (((a ++ c).size : Nat) : Int) = 240 := by omega
  have HB := Lib.hid (both_byte a c ha0)
  have HP : Hid (∀ e w', OfR w n a c e w' = if ofB n a c then RMade w n (ofK a c n) e w' else NoneT w e w') := Lib.hid (fun e w' => rfl)
  have HT := Lib.hid (ofB_true n a c ha0 hc0)
  have HA := Lib.hid (fun i => ofB_at n a c i h1)
  clear ha0 hc0
  go_enter Try.func31, Try.ntmps31
  go_wp2_with (fail)
  refine (cN _).mono ?_
  rintro e w1 ⟨p, h, rfl, hh, b1, t⟩
  have d0 : w1.cell? ⟨xb, xo, none⟩ = some (.string a) := by rw [b1.cell (p := ⟨xb, xo, none⟩) hxb]; exact hxy
  have d1 : w1.cell? ⟨xb, xo + 1, none⟩ = some (.string c) := by rw [b1.cell (p := ⟨xb, xo + 1, none⟩) hxb]; exact hxz
  rw [← ofK_start a c] at t
  have t := t.drew
  have b1 := b1.drew
  clear cN
  go_wp2_with (fail)
  go_region
  go_wp2_with (fail)
  generalize hs : a ++ c = s at *
  have HS := Lib.hid hs
  clear hs d0 d1 hxy hxz
  go_loopw [9] (fun i wr => ∃ k : Nat, k ≤ 240 ∧ i = .int .i64 (k : Int) ∧ (∀ j, j < k → okAt n a c j) ∧ Below w.heap.size w wr ∧ RTab wr p h n (ofK a c (ofAt n k))) (fun i _ => 240 - (intOf i).toNat)
  case atStart => exact ⟨0, by omega, rfl, fun j hj => absurd hj (by omega), b1, t⟩
  case round =>
    obtain ⟨k, hk, rfl, hok, hB, hT⟩ := hrel
    rename World => wr
    have hBs := hB.size
    by_cases hlt : k < 240
    · have x1 : (k : Int) < 240 := by omega
      have hks : k < s.size := by omega
      have hix := fun W => str_idx s k hks W
      have hv : s[k].toNat = bothN a c k := by
        rw [← HB.out k, byteN, dif_pos hks]
      rw [hv] at hix
      have hle := bothN_le a c k
      clear hv
      have pc := hT.pc
      by_cases h3 : k < 3
      · have y3 : decide ((k : Int) < 3) = true := by rw [decide_eq_true_eq]; omega
        have yn : (k : Int) < (n : Int) := by omega
        have yn' : decide ((n : Int) ≤ (k : Int)) = false := by rw [decide_eq_false_iff_not]; omega
        by_cases hv1 : bothN a c k = 1
        · rw [hv1] at hix
          have cc := hT.c k (by omega)
          have cf := hT.f k
          have hset := hT.set k 1
          rw [ofK_one _ _ _ _ h3, ofAt_lo h1 h3] at hset
          have hok' : ∀ j, j < k + 1 → okAt n a c j := fun j hj => by
            rcases Nat.lt_or_ge j k with h | h
            · exact hok j h
            · obtain rfl : j = k := by omega
              exact ⟨fun _ => hv1, fun h => absurd h (by omega)⟩
          clear hv1 hle
          go_wp2_with (fail)
          go_roundw
          case rel => exact ⟨k + 1, by omega, by go_num, hok', hB.setCell (p := ⟨h, k, none⟩) hh _, hset⟩
          case measure => simp [intOf]; omega
        · have yv : (((bothN a c k : Nat) : Int) != 1) = true := by rw [bne_iff_ne]; omega
          have hb := HA.out k hlt (fun h => hv1 (h.1 h3))
          clear hv1
          generalize bothN a c k = vv at *
          go_wp2_with (fail)
          go_ret2
          rw [HP.out, hb]
          exact ⟨rfl, hB⟩
      · have y3 : decide ((k : Int) < 3) = false := by rw [decide_eq_false_iff_not]; omega
        by_cases hn : k < n
        · have yn : (k : Int) < (n : Int) := by omega
          have yn' : decide ((n : Int) ≤ (k : Int)) = false := by rw [decide_eq_false_iff_not]; omega
          have cc := hT.c k (by omega)
          have cf := hT.f k
          have hset := hT.set k (bothN a c k)
          rw [(ofAt_mid h1 h3 hn).1, ofK_step _ _ (by omega), (ofAt_mid h1 h3 hn).2] at hset
          have hok' : ∀ j, j < k + 1 → okAt n a c j := fun j hj => by
            rcases Nat.lt_or_ge j k with h | h
            · exact hok j h
            · obtain rfl : j = k := by omega
              exact ⟨fun h => absurd h h3, fun h => absurd h (by omega)⟩
          generalize bothN a c k = vv at *
          go_wp2_with (fail)
          go_roundw
          case rel => exact ⟨k + 1, by omega, by go_num, hok', hB.setCell (p := ⟨h, k, none⟩) hh _, hset⟩
          case measure => simp [intOf]; omega
        · have yn' : decide ((n : Int) ≤ (k : Int)) = true := by rw [decide_eq_true_eq]; omega
          have yn : ¬ (k : Int) < (n : Int) := by omega
          by_cases hv0 : bothN a c k = 0
          · rw [hv0, show ((0 : Nat) : Int) = 0 from rfl] at hix
            have hok' : ∀ j, j < k + 1 → okAt n a c j := fun j hj => by
              rcases Nat.lt_or_ge j k with h | h
              · exact hok j h
              · obtain rfl : j = k := by omega
                exact ⟨fun h => absurd h h3, fun _ => hv0⟩
            rw [ofAt_hi h1 hn] at hT
            clear hv0 hle pc
            go_wp2_with (fail)
            go_roundw
            case rel => exact ⟨k + 1, by omega, by go_num, hok', hB, hT⟩
            case measure => simp [intOf]; omega
          · have yv : (((bothN a c k : Nat) : Int) != 0) = true := by rw [bne_iff_ne]; omega
            have hb := HA.out k hlt (fun h => hv0 (h.2 (by omega)))
            clear hv0
            generalize bothN a c k = vv at *
            go_wp2_with (fail)
            go_ret2
            rw [HP.out, hb]
            exact ⟨rfl, hB⟩
    · obtain rfl : k = 240 := by omega
      have hb := HT.out hok
      rw [ofAt_end h2] at hT
      go_wp2_with (fail)
      go_ret2
      rw [HP.out, hb]
      exact ⟨p, h, rfl, hh, hB, hT⟩
end Go.Proofs.Ytbfdjlibhinkiaa
