/- count: a table out of texts. -/
import Derived.Test.YtbfdjlibhinkiaaCntLay
import Derived.Test.YtbfdjlibhinkiaaCntLaw2
namespace Go.Proofs.Ytbfdjlibhinkiaa
open Go.RowKit
set_option linter.unusedVariables false
set_option linter.unusedSimpArgs false

def byteN (s : ByteArray) (j : Nat) : Nat := if h : j < s.size then s[j].toNat else 0
theorem str_idx (s : ByteArray) (k : Nat) (hk : k < s.size) (W : World) : (Instr.index 9 (.string s) (.int .i64 (k : Int))).run Try.prog W = .ok (.int .u8 ((s[k].toNat : Nat) : Int)) W := by
  simp [Instr.index, run_underlying Try.underlying9, asIntOf, hk]
theorem byteN_le (s : ByteArray) (j : Nat) : byteN s j ≤ 255 := by
  unfold byteN; split
  · have := UInt8.toNat_lt s[j]; omega
  · omega
/-- The counts that two texts say, up to block b. -/
def ofK (a c : ByteArray) (b : Nat) : Nat → Nat := fun i => if i < 3 then 1 else if i < b then (if i < 120 then byteN a i else byteN c (i - 120)) else 0
theorem ofK_start (a c : ByteArray) : ofK a c 3 = cnt0 := by funext i; unfold ofK cnt0; by_cases h : i < 3 <;> simp [h]
theorem ofK_lo (a c : ByteArray) {b : Nat} (h3 : 3 ≤ b) (h : b < 120) : upd (ofK a c b) b (byteN a b) = ofK a c (b + 1) := by
  funext i; simp only [upd, ofK]
  by_cases e : i = b
  · subst e; rw [if_pos rfl, if_neg (by omega), if_pos (by omega), if_pos h]
  · rw [if_neg e]
    by_cases h1 : i < b
    · rw [if_pos h1, if_pos (show i < b + 1 by omega)]
    · rw [if_neg h1, if_neg (show ¬ i < b + 1 by omega)]
theorem ofK_hi (a c : ByteArray) {b : Nat} (h3 : 3 ≤ b) (h : ¬ b < 120) : upd (ofK a c b) b (byteN c (b - 120)) = ofK a c (b + 1) := by
  funext i; simp only [upd, ofK]
  by_cases e : i = b
  · subst e; rw [if_pos rfl, if_neg (by omega), if_pos (by omega), if_neg h]
  · rw [if_neg e]
    by_cases h1 : i < b
    · rw [if_pos h1, if_pos (show i < b + 1 by omega)]
    · rw [if_neg h1, if_neg (show ¬ i < b + 1 by omega)]
theorem ofK_keep (a c : ByteArray) {b : Nat} (h3 : 3 ≤ b) (h : (if b < 120 then byteN a b else byteN c (b - 120)) = 0) : ofK a c b = ofK a c (b + 1) := by
  funext i; simp only [ofK]
  by_cases e : i = b
  · subst e; rw [if_neg (by omega), if_neg (by omega), if_neg (by omega), if_pos (by omega)]; exact h.symm
  · by_cases h1 : i < b
    · rw [if_pos h1, if_pos (show i < b + 1 by omega)]
    · rw [if_neg h1, if_neg (show ¬ i < b + 1 by omega)]
theorem ofK_small (a c : ByteArray) {n b : Nat} (h1 : 8 ≤ n) (h2 : n ≤ 200) (h3 : 3 ≤ b) (hb : b ≤ n) : Small n (ofK a c b) :=
  ⟨h1, h2, fun i => by
    unfold ofK; split
    · omega
    · split
      · split
        · exact byteN_le _ _
        · exact byteN_le _ _
      · omega, fun i hi => by unfold ofK; rw [if_neg (by omega), if_neg (by omega)]⟩
def ofB (n : Nat) (a c : ByteArray) : Bool := decide ([layS (ofK a c n) 0, layS (ofK a c n) 120] = [a, c])
def NoneT (w : World) (e : Ending) (w' : World) : Prop := e = .returned (.tuple #[.pointer none, .int .i64 1]) ∧ Below w.heap.size w w'
theorem of_bad (n : Int) (v : Value) (w : World) (h : n < 8 ∨ 200 < n) : Calls Try.prog 30 #[.int .i64 n, v] w (NoneT w) := by
  have cN := fun W => new_bad n W h
  clear h
  go_enter Try.func30, Try.ntmps30
  go_wp2_with (fail)
  refine (cN _).mono ?_
  rintro e w' ⟨rfl, rfl⟩
  go_wp2_with (fail)
  go_ret2
  exact ⟨rfl, Below.refl _ _⟩
theorem of_len (n : Nat) (v : Value) (l : List ByteArray) (w : World) (h1 : 8 ≤ n) (h2 : n ≤ 200) (hR : Reads w v (l.map .string)) (hl : l.length ≠ 2) : Calls Try.prog 30 #[.int .i64 (n : Int), v] w (NoneT w) := by
  have cN := fun W => new_good n W h1 h2
  have hS := small0 h1 h2
  have la := fun W => hR.len_run (P := Try.prog) Try.underlying42 3 W
  rw [List.length_map] at la
  have t1 : (((l.length : Nat) : Int) != 2) = true := by rw [bne_iff_ne]; omega
  clear hl
  go_enter Try.func30, Try.ntmps30
  go_wp2_with (fail)
  refine (cN _).mono ?_
  rintro e w1 ⟨rfl, b1, t⟩
  go_wp2_with (fail)
  refine (lay_any _ _ _ _ t hS).mono ?_
  rintro e w2 ⟨rfl, b2, _⟩
  go_wp2_with (fail)
  go_ret2
  exact ⟨rfl, below_e b1 b2⟩
def OfT (w : World) (n : Nat) (a c : ByteArray) (e : Ending) (w' : World) : Prop :=
  if ofB n a c then e = .returned (.tuple #[.pointer (some ⟨w.heap.size, 0, none⟩), .int .i64 0]) ∧ Below w.heap.size w w' ∧ TabAt w' w.heap.size n (ofK a c n) else NoneT w e w'
set_option maxRecDepth 100000 in
set_option maxHeartbeats 4000000 in
theorem of_any (n : Nat) (v : Value) (a c : ByteArray) (w : World) (h1 : 8 ≤ n) (h2 : n ≤ 200) (hR : Reads w v [.string a, .string c]) (ha : a.size ≤ 140737488355328) (hc : c.size ≤ 140737488355328) :
    Calls Try.prog 30 #[.int .i64 (n : Int), v] w (OfT w n a c) := by
  have cN := fun W => new_good n W h1 h2
  have hS := small0 h1 h2
  have hR' : Reads w v ([a, c].map .string) := hR
  obtain ⟨pa, ca, rfl, cellA⟩ := hR'.items
  obtain ⟨xb, xo, rfl, hxb, hx0⟩ := cellA 0 (by simp)
  obtain ⟨_, _, e0, _, hx1⟩ := cellA 1 (by simp)
  cases e0
  have hxy : w.cell? ⟨xb, xo, none⟩ = some (.string a) := by simpa using hx0
  have hxz : w.cell? ⟨xb, xo + 1, none⟩ = some (.string c) := by simpa using hx1
  clear cellA hx0 hx1 hR
  have hRH := Lib.hid hR'
  clear hR'
  go_enter Try.func30, Try.ntmps30
  go_wp2_with (fail)
  refine (cN _).mono ?_
  rintro e w1 ⟨rfl, b1, t⟩
  obtain ⟨g, hg⟩ : ∃ g, w.heap.size = g := ⟨_, rfl⟩
  rw [hg] at t
  try rw [hg]
  go_wp2_with (fail)
  refine (lay_any _ _ _ _ t hS).mono ?_
  rintro e w2 ⟨rfl, b2, _⟩
  have t2 := t.below b2 t.lt
  have B2 := below_e b1 b2
  rw [← ofK_start a c] at t2
  clear b1 b2 t hS cN
  go_wp2_with (fail)
  go_loopw [8] (fun i wr => ∃ b : Nat, 3 ≤ b ∧ b ≤ n ∧ i = .int .i64 (b : Int) ∧ Below w.heap.size w wr ∧ TabAt wr g n (ofK a c b)) (fun i _ => n - (intOf i).toNat)
  case atStart => exact ⟨3, by omega, by omega, rfl, B2, t2⟩
  case round =>
    obtain ⟨b, hb3, hbn, rfl, hB, hT⟩ := hrel
    rename World => wr
    have hBs := hB.size
    by_cases hlt : b < n
    · have x1 : (b : Int) < (n : Int) := by omega
      have d0 : wr.cell? ⟨xb, xo, none⟩ = some (.string a) := by rw [hB.cell (p := ⟨xb, xo, none⟩) hxb]; exact hxy
      have d1 : wr.cell? ⟨xb, xo + 1, none⟩ = some (.string c) := by rw [hB.cell (p := ⟨xb, xo + 1, none⟩) hxb]; exact hxz
      have c9 := hT.c b (by omega)
      have f9 := hT.f (1 + b)
      have h240 : (b : Int) < 240 := by omega
      by_cases hlo : b < 120
      · skip
        have q1 : (b : Int) / 120 = 0 := by omega
        have q2 : (b : Int) % 120 = (b : Int) := by omega
        by_cases hsz : b < a.size
        · have y1 : (b : Int) < (a.size : Int) := by omega
          have hix := str_idx a b hsz
          have hset := hT.drew.set b (byteN a b) (by omega)
          rw [ofK_lo a c hb3 hlo] at hset
          have hbn' : byteN a b = a[b].toNat := by unfold byteN; rw [dif_pos hsz]
          rw [hbn'] at hset
          have hb0 : (0 : Int) ≤ (b : Int) := by omega
          have hk0 : (0 : Int) ≤ (b : Int) := by omega
          generalize a[b].toNat = vv at *
          clear hbn' hT
          have hBd : Below w.heap.size w wr.drew := hB.trans ⟨rfl, rfl, rfl, Nat.le_refl _, fun _ _ => rfl⟩
          have hgw : w.heap.size ≤ g := by omega
          go_wp2_with (fail)
          go_region
          all_goals
            go_wp2_with (fail)
            go_roundw
            case rel => exact ⟨b + 1, by omega, by omega, by go_num, hBd.setCell (by show w.heap.size ≤ g; exact hgw) _, hset⟩
            case measure => simp [intOf]; omega
        · have y1 : decide ((b : Int) < (a.size : Int)) = false := by rw [decide_eq_false_iff_not]; omega
          have y1' : decide (b < a.size) = false := by rw [decide_eq_false_iff_not]; omega
          have hT' := hT
          rw [ofK_keep a c hb3 (by rw [if_pos hlo, byteN, dif_neg hsz])] at hT'
          clear hT c9
          go_wp2_with (fail)
          go_roundw
          case rel => exact ⟨b + 1, by omega, by omega, by go_num, hB, hT'⟩
          case measure => simp [intOf]; omega
      · skip
        obtain ⟨kk, hkk⟩ : ∃ kk, kk = b - 120 := ⟨_, rfl⟩
        have q1 : (b : Int) / 120 = 1 := by omega
        have q2 : (b : Int) % 120 = (kk : Int) := by omega
        by_cases hsz : kk < c.size
        · have y1 : (kk : Int) < (c.size : Int) := by omega
          have hix := str_idx c kk hsz
          have hset := hT.drew.set b (byteN c kk) (by omega)
          rw [hkk, ofK_hi a c hb3 hlo] at hset
          have hbn' : byteN c (b - 120) = c[kk].toNat := by rw [← hkk]; unfold byteN; rw [dif_pos hsz]
          rw [hbn'] at hset
          have hb0 : (0 : Int) ≤ (b : Int) := by omega
          have hk0 : (0 : Int) ≤ (kk : Int) := by omega
          generalize c[kk].toNat = vv at *
          clear hbn' hT hkk
          have hBd : Below w.heap.size w wr.drew := hB.trans ⟨rfl, rfl, rfl, Nat.le_refl _, fun _ _ => rfl⟩
          have hgw : w.heap.size ≤ g := by omega
          go_wp2_with (fail)
          go_region
          all_goals
            go_wp2_with (fail)
            go_roundw
            case rel => exact ⟨b + 1, by omega, by omega, by go_num, hBd.setCell (by show w.heap.size ≤ g; exact hgw) _, hset⟩
            case measure => simp [intOf]; omega
        · have y1 : decide ((kk : Int) < (c.size : Int)) = false := by rw [decide_eq_false_iff_not]; omega
          have y1' : decide (kk < c.size) = false := by rw [decide_eq_false_iff_not]; omega
          have hT' := hT
          rw [ofK_keep a c hb3 (by rw [if_neg hlo, ← hkk, byteN, dif_neg hsz])] at hT'
          clear hT c9 hkk
          go_wp2_with (fail)
          go_roundw
          case rel => exact ⟨b + 1, by omega, by omega, by go_num, hB, hT'⟩
          case measure => simp [intOf]; omega
    · obtain rfl : b = n := by omega
      have hSn := ofK_small a c h1 h2 hb3 (Nat.le_refl _)
      have hRr := hRH.out.below hB
      cases hb : ofB b a c with
      | true =>
        have hd : decide ([layS (ofK a c b) 0, layS (ofK a c b) 120] = [a, c]) = true := hb
        have HP : Hid (∀ e w', OfT w b a c e w' = (e = .returned (.tuple #[.pointer (some ⟨w.heap.size, 0, none⟩), .int .i64 0]) ∧ Below w.heap.size w w' ∧ TabAt w' w.heap.size b (ofK a c b))) := Lib.hid (fun e w' => by unfold OfT; rw [hb]; rfl)
        clear hb
        go_wp2_with (fail)
        refine (lay_any _ _ _ _ hT hSn).mono ?_
        rintro e w5 ⟨rfl, b5, r5⟩
        have e5 := equal_any _ _ [layS (ofK a c b) 0, layS (ofK a c b) 120] [a, c] w5 r5 (hRr.below b5) (by simp) (by simp)
        rw [hd] at e5
        have T5 := hT.below b5 hT.lt
        have B5 := hB.trans (b5.mono hBs)
        clear r5 hd
        go_wp2_with (fail)
        refine e5.mono ?_
        rintro e w6 ⟨rfl, b6, h6⟩
        have T6 := T5.heap (w' := w6) (by rw [h6])
        have B6 := below_e B5 b6
        go_wp2_with (fail)
        go_ret2
        rw [HP.out]
        subst hg
        exact ⟨rfl, B6, T6⟩
      | false =>
        have hd : decide ([layS (ofK a c b) 0, layS (ofK a c b) 120] = [a, c]) = false := hb
        have HP : Hid (∀ e w', OfT w b a c e w' = NoneT w e w') := Lib.hid (fun e w' => by unfold OfT; rw [hb]; rfl)
        clear hb
        go_wp2_with (fail)
        refine (lay_any _ _ _ _ hT hSn).mono ?_
        rintro e w5 ⟨rfl, b5, r5⟩
        have e5 := equal_any _ _ [layS (ofK a c b) 0, layS (ofK a c b) 120] [a, c] w5 r5 (hRr.below b5) (by simp) (by simp)
        rw [hd] at e5
        have B5 := hB.trans (b5.mono hBs)
        clear r5 hd
        go_wp2_with (fail)
        refine e5.mono ?_
        rintro e w6 ⟨rfl, b6, h6⟩
        have B6 := below_e B5 b6
        go_wp2_with (fail)
        go_ret2
        rw [HP.out]
        exact ⟨rfl, B6⟩
end Go.Proofs.Ytbfdjlibhinkiaa
