import Derived.Test.YtjgafpkpoppcbaaGreatDoorLmat
import Derived.Test.YtjgafpkpoppcbaaGreatDoorLbase
import Derived.Test.YtjgafpkpoppcbaaGreatDoorLgf
set_option linter.unusedVariables false
set_option linter.unusedSimpArgs false
section
namespace Go.Proofs.YtjgafpkpoppcbaaGreatDoor
open Go.RowKit
def fits8 (n : Int) : Bool := decide (1 ≤ n ∧ n ≤ 8)
theorem rsfits_any (n : Int) (w : World) : Calls Tryz.prog 105 #[.int .i64 n] w fun e w' => e = .returned (.bool (fits8 n)) ∧ w = w' := by
  by_cases h1 : 1 ≤ n
  · have t1 : decide (1 ≤ n) = true := by simpa using h1
    cases t2 : decide (n ≤ 8) with
    | true =>
      have hz : Hid (fits8 n = true) := Lib.hid (by simp at t2; simp [fits8]; omega)
      go_enter Tryz.func105, Tryz.ntmps105
      go_wp2
      go_ret
      exact ⟨by rw [hz.out]; rfl, rfl⟩
    | false =>
      have hz : Hid (fits8 n = false) := Lib.hid (by simp at t2; simp [fits8]; omega)
      go_enter Tryz.func105, Tryz.ntmps105
      go_wp2
      go_ret
      exact ⟨by rw [hz.out]; rfl, rfl⟩
  · have t1 : decide (1 ≤ n) = false := by simpa using h1
    have hz : Hid (fits8 n = false) := Lib.hid (by simp [fits8]; omega)
    go_enter Tryz.func105, Tryz.ntmps105
    go_wp2
    go_ret
    exact ⟨by rw [hz.out]; rfl, rfl⟩
def alikeL (l : List ByteArray) : Bool := l.all fun s => s.size == (l.getD 0 ⟨#[]⟩).size && decide (1 ≤ s.size ∧ s.size ≤ 4096)
theorem alike_false {l : List ByteArray} {k : Nat} (hk : k < l.length) (h : (l.getD k ⟨#[]⟩).size ≠ (l.getD 0 ⟨#[]⟩).size ∨ (l.getD k ⟨#[]⟩).size < 1 ∨ 4096 < (l.getD k ⟨#[]⟩).size) : alikeL l = false := by
  unfold alikeL
  rw [List.all_eq_false]
  refine ⟨l.getD k ⟨#[]⟩, by rw [List.getD_eq_getElem?_getD, List.getElem?_eq_getElem hk]; exact List.getElem_mem hk, ?_⟩
  simp only [Bool.and_eq_true, beq_iff_eq, decide_eq_true_eq]
  omega
theorem alike_true {l : List ByteArray} (h : ∀ k, k < l.length → (l.getD k ⟨#[]⟩).size = (l.getD 0 ⟨#[]⟩).size ∧ 1 ≤ (l.getD k ⟨#[]⟩).size ∧ (l.getD k ⟨#[]⟩).size ≤ 4096) : alikeL l = true := by
  unfold alikeL
  rw [List.all_eq_true]
  intro s hs
  obtain ⟨k, hk, rfl⟩ := List.getElem_of_mem hs
  have := h k hk
  rw [show l.getD k ⟨#[]⟩ = l[k] by rw [List.getD_eq_getElem?_getD, List.getElem?_eq_getElem hk]; rfl] at this
  simp only [Bool.and_eq_true, beq_iff_eq, decide_eq_true_eq]
  exact this
theorem alike_facts {l : List ByteArray} (h : alikeL l = true) : ∀ k, k < l.length → (l.getD k ⟨#[]⟩).size = (l.getD 0 ⟨#[]⟩).size ∧ 1 ≤ (l.getD k ⟨#[]⟩).size ∧ (l.getD k ⟨#[]⟩).size ≤ 4096 := fun k hk => by
  unfold alikeL at h
  rw [List.all_eq_true] at h
  have := h (l.getD k ⟨#[]⟩) (by rw [List.getD_eq_getElem?_getD, List.getElem?_eq_getElem hk]; exact List.getElem_mem hk)
  simpa only [Bool.and_eq_true, beq_iff_eq, decide_eq_true_eq] using this
set_option maxRecDepth 100000 in
set_option maxHeartbeats 1000000 in
theorem alike_any (v : Value) (l : List ByteArray) (w : World) (h : Reads w v (tx l)) (hF : Fits l) :
    Calls Tryz.prog 108 #[v] w fun e w' => e = .returned (.bool (alikeL l)) ∧ w = w' := by
  have hn := hF.n
  rcases h.srow with ⟨⟨a0, c0, rfl⟩, rfl⟩ | ⟨b, off, cap, rfl, hS⟩
  · go_enter Tryz.func108, Tryz.ntmps108
    go_wp2
    go_loopw [4, 7] (fun _ i wr => i = .int .i64 0 ∧ w = wr) (fun _ _ _ => 0)
    case atStart => exact ⟨rfl, rfl⟩
    case round =>
      obtain ⟨rfl, rfl⟩ := hrel
      go_wp2
      go_ret
      exact ⟨rfl, rfl⟩
  · go_enter Tryz.func108, Tryz.ntmps108
    go_wp2
    go_loopw [4, 7] (fun _ i wr => ∃ k : Nat, k ≤ l.length ∧ i = .int .i64 (k : Int) ∧ w = wr ∧ Hid (∀ j, j < k → (l.getD j ⟨#[]⟩).size = (l.getD 0 ⟨#[]⟩).size ∧ 1 ≤ (l.getD j ⟨#[]⟩).size ∧ (l.getD j ⟨#[]⟩).size ≤ 4096)) (fun _ i _ => l.length - (RowKit.intOf i).toNat)
    case atStart => exact ⟨0, by omega, rfl, rfl, Lib.hid (fun j hj => by omega)⟩
    case round =>
      obtain ⟨k, hk, rfl, rfl, hj⟩ := hrel
      by_cases hlt : k < l.length
      · have hc := hS.cell k hlt
        have hc0 := hS.cell 0 (by omega)
        rw [Nat.add_zero] at hc0
        have hmk := hF.m k hlt
        have hm0 := hF.m 0 (by omega)
        have b1 : (k : Int) < (l.length : Int) := by omega
        by_cases he : (l.getD k ⟨#[]⟩).size = (l.getD 0 ⟨#[]⟩).size
        · have e3 : ((((l.getD k ⟨#[]⟩).size : Nat) : Int) != (((l.getD 0 ⟨#[]⟩).size : Nat) : Int)) = false := by rw [he]; exact bne_self_eq_false _
          by_cases h1 : 1 ≤ (l.getD k ⟨#[]⟩).size
          · have e4 : decide ((((l.getD k ⟨#[]⟩).size : Nat) : Int) < 1) = false := by rw [decide_eq_false_iff_not]; omega
            by_cases h2 : (l.getD k ⟨#[]⟩).size ≤ 4096
            · have e5 : decide (4096 < (((l.getD k ⟨#[]⟩).size : Nat) : Int)) = false := by rw [decide_eq_false_iff_not]; omega
              have hj' : Hid (∀ j, j < k + 1 → (l.getD j ⟨#[]⟩).size = (l.getD 0 ⟨#[]⟩).size ∧ 1 ≤ (l.getD j ⟨#[]⟩).size ∧ (l.getD j ⟨#[]⟩).size ≤ 4096) := Lib.hid (fun j hjk => by
                by_cases e : j = k
                · subst e; exact ⟨he, h1, h2⟩
                · exact hj.out j (by omega))
              obtain ⟨rk, hrk⟩ : ∃ r, l.getD k ⟨#[]⟩ = r := ⟨_, rfl⟩
              obtain ⟨r0, hr0⟩ : ∃ r, l.getD 0 ⟨#[]⟩ = r := ⟨_, rfl⟩
              rw [hrk] at hc hmk e3 e4 e5
              rw [hr0] at hc0 hm0 e3
              clear hj hrk hr0 he h1 h2
              go_wp2
              go_roundw
              case rel => exact ⟨k + 1, by omega, by go_num, (by first | rfl | trivial), hj'⟩
              case measure => simp [RowKit.intOf]; omega
            · have e5 : decide (4096 < (((l.getD k ⟨#[]⟩).size : Nat) : Int)) = true := by rw [decide_eq_true_eq]; omega
              have hz : Hid (alikeL l = false) := Lib.hid (alike_false hlt (by omega))
              obtain ⟨rk, hrk⟩ : ∃ r, l.getD k ⟨#[]⟩ = r := ⟨_, rfl⟩
              obtain ⟨r0, hr0⟩ : ∃ r, l.getD 0 ⟨#[]⟩ = r := ⟨_, rfl⟩
              rw [hrk] at hc hmk e3 e4 e5
              rw [hr0] at hc0 hm0 e3
              clear hj hrk hr0 he h1 h2
              go_wp2
              go_ret
              exact ⟨by rw [hz.out]; rfl, rfl⟩
          · have e4 : decide ((((l.getD k ⟨#[]⟩).size : Nat) : Int) < 1) = true := by rw [decide_eq_true_eq]; omega
            have hz : Hid (alikeL l = false) := Lib.hid (alike_false hlt (by omega))
            obtain ⟨rk, hrk⟩ : ∃ r, l.getD k ⟨#[]⟩ = r := ⟨_, rfl⟩
            obtain ⟨r0, hr0⟩ : ∃ r, l.getD 0 ⟨#[]⟩ = r := ⟨_, rfl⟩
            rw [hrk] at hc hmk e3 e4
            rw [hr0] at hc0 hm0 e3
            clear hj hrk hr0 he h1
            go_wp2
            go_ret
            exact ⟨by rw [hz.out]; rfl, rfl⟩
        · have e3 : ((((l.getD k ⟨#[]⟩).size : Nat) : Int) != (((l.getD 0 ⟨#[]⟩).size : Nat) : Int)) = true := by rw [bne_iff_ne]; omega
          have hz : Hid (alikeL l = false) := Lib.hid (alike_false hlt (by omega))
          obtain ⟨rk, hrk⟩ : ∃ r, l.getD k ⟨#[]⟩ = r := ⟨_, rfl⟩
          obtain ⟨r0, hr0⟩ : ∃ r, l.getD 0 ⟨#[]⟩ = r := ⟨_, rfl⟩
          rw [hrk] at hc hmk e3
          rw [hr0] at hc0 hm0 e3
          clear hj hrk hr0 he
          go_wp2
          go_ret
          exact ⟨by rw [hz.out]; rfl, rfl⟩
      · have e : k = l.length := by omega
        subst e
        have hz : Hid (alikeL l = true) := Lib.hid (alike_true hj.out)
        go_wp2
        go_ret
        exact ⟨by rw [hz.out]; rfl, rfl⟩
set_option maxRecDepth 100000 in
set_option maxHeartbeats 1000000 in
theorem grow_nil (n : Nat) (w : World) (h1 : 1 ≤ n) (h2 : n ≤ 1000) :
    Calls Tryz.prog 171 #[.slice none 0 0, .int .i64 (n : Int)] w (GivesT w []) := by
  obtain ⟨i0, hi, hz0, hz1, hz2⟩ := info_parts Tryz.infoS
  obtain ⟨c, cur, hc1, hc2, hcs, hap⟩ := run_append_made (P := Tryz.prog) (T := 39) (I := 3) Tryz.underlying39 Tryz.underlying3 hi hz0 hz1 hz2 rfl 39 w n h1 h2 (by decide)
  have hcs' := Lib.hid hcs
  clear hcs
  go_enter Tryz.func171, Tryz.ntmps171
  go_wp2_with (at_builtin; refine wpList_append_run2 hap _ _ rfl rfl rfl rfl rfl ?_)
  go_ret
  refine ⟨.slice (some ⟨w.heap.size, 0, none⟩) 0 c, rfl, ⟨⟨rfl, .inr ⟨w.heap.size, c, cur, rfl, Nat.le_refl _, heap_alloc_new _ _, Nat.zero_le _, hc2, by rw [hcs'.out, Nat.mul_one], by simp⟩⟩⟩, ((Below.refl _ w).drew).alloc (Nat.le_refl _) _⟩
set_option maxRecDepth 100000 in
set_option maxHeartbeats 1000000 in
theorem concat_two (va vb : Value) (a b : List ByteArray) (g cap : Nat) (w : World) (hg : g < w.heap.size) (h0 : w.cell? ⟨g, 0, none⟩ = some va) (h1 : w.cell? ⟨g, 1, none⟩ = some vb) (hA : Reads w va (tx a)) (hB : Reads w vb (tx b)) (la : 1 ≤ a.length) (lb : a.length ≤ 100) (lc : b.length ≤ 100) :
    Calls Tryz.prog 143 #[.slice (some ⟨g, 0, none⟩) 2 cap] w (GivesT w (a ++ b)) := by
  obtain ⟨i0, hi, hz0, hz1, hz2⟩ := info_parts Tryz.infoS
  have lea := fun W => hA.len_run (P := Tryz.prog) Tryz.underlying39 3 W
  have leb := fun W => hB.len_run (P := Tryz.prog) Tryz.underlying39 3 W
  rw [List.length_map] at lea leb
  have hgr := fun W => grow_nil (a.length + b.length) W (by omega) (by omega)
  rw [show ((a.length + b.length : Nat) : Int) = (a.length : Int) + (b.length : Int) by push_cast; rfl] at hgr
  go_enter Tryz.func143, Tryz.ntmps143
  go_wp2_with (fail)
  go_loopw [3, 5, 11] (fun z _ i wr => w = wr ∧ ((i = .int .i64 0 ∧ z = .int .i64 0) ∨ (i = .int .i64 1 ∧ z = .int .i64 (a.length : Int)) ∨ (i = .int .i64 2 ∧ z = .int .i64 ((a.length : Int) + (b.length : Int))))) (fun _ _ i _ => 2 - (RowKit.intOf i).toNat)
  case atStart => exact ⟨rfl, .inl ⟨rfl, rfl⟩⟩
  case round =>
    obtain ⟨rfl, hrel⟩ := hrel
    rcases hrel with ⟨rfl, rfl⟩ | ⟨rfl, rfl⟩ | ⟨rfl, rfl⟩
    · go_wp2_with (fail)
      go_roundw
      case rel => exact ⟨(by first | rfl | trivial), .inr (.inl ⟨rfl, by go_num⟩)⟩
      case measure => simp [RowKit.intOf]
    · go_wp2_with (fail)
      go_roundw
      case rel => exact ⟨(by first | rfl | trivial), .inr (.inr ⟨rfl, rfl⟩)⟩
      case measure => simp [RowKit.intOf]
    · go_wp2_with (fail)
      refine (hgr _).mono ?_
      rintro e w1 ⟨v1, rfl, o1, b1⟩
      have hA1 := hA.below b1
      obtain ⟨v2, w2, hap2, o2, b2, k2⟩ := Own.pushAll (P := Tryz.prog) (T := 39) Tryz.underlying39 hi hz0 hz1 hz2 rfl o1 hA1 (tx_one a) b1.size (by simp; omega) (by simp; omega)
      have b12 := b1.trans b2
      have hB2 := hB.below b12
      obtain ⟨v3, w3, hap3, o3, b3, k3⟩ := Own.pushAll (P := Tryz.prog) (T := 39) Tryz.underlying39 hi hz0 hz1 hz2 rfl o2 hB2 (tx_one b) b12.size (by simp; omega) (by simp; omega)
      have c0 : w1.cell? ⟨g, 0, none⟩ = some va := by rw [b1.cell (p := ⟨g, 0, none⟩) hg]; exact h0
      have c1 : w2.cell? ⟨g, 1, none⟩ = some vb := by rw [b12.cell (p := ⟨g, 1, none⟩) hg]; exact h1
      go_wp2_with (fail)
      go_loopw [6, 8, 27] (fun u _ i wr => (i = .int .i64 0 ∧ u = v1 ∧ w1 = wr) ∨ (i = .int .i64 1 ∧ u = v2 ∧ w2 = wr) ∨ (i = .int .i64 2 ∧ u = v3 ∧ w3 = wr)) (fun _ _ i _ => 2 - (RowKit.intOf i).toNat)
      case atStart => exact .inl ⟨rfl, rfl, rfl⟩
      case round =>
        rcases hrel with ⟨rfl, rfl, rfl⟩ | ⟨rfl, rfl, rfl⟩ | ⟨rfl, rfl, rfl⟩
        · go_wp2_with (at_builtin; refine wpList_append_run2 hap2 _ _ rfl rfl rfl rfl rfl ?_)
          go_roundw
          case rel => exact .inr (.inl ⟨rfl, rfl, (by first | rfl | trivial)⟩)
          case measure => simp [RowKit.intOf]
        · go_wp2_with (at_builtin; refine wpList_append_run2 hap3 _ _ rfl rfl rfl rfl rfl ?_)
          go_roundw
          case rel => exact .inr (.inr ⟨rfl, rfl, (by first | rfl | trivial)⟩)
          case measure => simp [RowKit.intOf]
        · go_wp2_with (fail)
          go_ret
          refine ⟨_, rfl, ?_, b12.trans b3⟩
          rw [show tx [] ++ tx a ++ tx b = tx (a ++ b) by simp [tx]] at o3
          exact o3
end Go.Proofs.YtjgafpkpoppcbaaGreatDoor
end
section
namespace Go.Proofs.YtjgafpkpoppcbaaGreatDoor
open Go.RowKit
theorem alike_rect {l : List ByteArray} (h : alikeL l = true) : Rect l l.length (l.getD 0 ⟨#[]⟩).size := ⟨rfl, fun i hi => (alike_facts h i hi).1⟩
def encB (data : List ByteArray) (m : Int) : Bool := fits8 (data.length : Int) && fits8 m && alikeL data
def encL (data : List ByteArray) (m : Int) : List ByteArray := if encB data m then mulL (mkM (cyEl m.toNat) m.toNat data.length) data else []
def encE (data : List ByteArray) (m : Int) : Int := if encB data m then 0 else 30
theorem enc_mul {data : List ByteArray} {k m L : Nat} (h : Rect data k L) (h1 : 1 ≤ k) (h2 : k ≤ 8) (h3 : 1 ≤ m) (h4 : m ≤ 8) (h5 : 1 ≤ L) (h6 : L ≤ 4096) : mulOk (mkM (cyEl m) m k) data = true :=
  mulOk_of (mkM_rect _ m k) h h3 (by omega) h1 (by omega) h5 h6
theorem encB_facts {data : List ByteArray} {m : Int} (h : encB data m = true) : 1 ≤ data.length ∧ data.length ≤ 8 ∧ 1 ≤ m ∧ m ≤ 8 ∧ alikeL data = true := by
  unfold encB at h
  simp only [Bool.and_eq_true, fits8, decide_eq_true_eq] at h
  obtain ⟨⟨h1, h2⟩, h3⟩ := h
  exact ⟨by omega, by omega, h2.1, h2.2, h3⟩
theorem enc_bad (w : World) (data : List ByteArray) (m : Int) (h : Hid (encB data m = false)) (W : World) (hb : Below w.heap.size w W) : GivesL w (encL data m) (encE data m) (.returned (.tuple #[.slice none 0 0, .int .i64 30])) W :=
  ⟨.slice none 0 0, by rw [encE, h.out]; rfl, by rw [encL, h.out]; exact Own.nil _ _ _, hb⟩
set_option maxRecDepth 100000 in
set_option maxHeartbeats 2000000 in
theorem encode_any (v : Value) (data : List ByteArray) (m : Int) (w : World) (ht : Tabs w) (hD : Reads w v (tx data)) (hF : Fits data) :
    Calls Tryz.prog 82 #[v, .int .i64 m] w (GivesL w (encL data m) (encE data m)) := by
  have hn := hF.n
  have hl := fun W => hD.len_run (P := Tryz.prog) Tryz.underlying39 3 W
  rw [List.length_map] at hl
  have c1 := fun W => rsfits_any (data.length : Int) W
  have c2 := fun W => rsfits_any m W
  have c3 := alike_any v data w hD hF
  cases h1 : fits8 (data.length : Int) with
  | false =>
    have hz : Hid (encB data m = false) := Lib.hid (by simp [encB, h1])
    rw [h1] at c1
    clear h1
    go_enter Tryz.func82, Tryz.ntmps82
    go_wp2_with (fail)
    refine (c1 _).mono ?_
    rintro e wq ⟨rfl, rfl⟩
    go_wp2_with (fail)
    go_ret2
    exact enc_bad w data m hz _ (Below.refl _ _)
  | true =>
    cases h2 : fits8 m with
    | false =>
      have hz : Hid (encB data m = false) := Lib.hid (by simp [encB, h2])
      rw [h1] at c1
      rw [h2] at c2
      clear h1 h2
      go_enter Tryz.func82, Tryz.ntmps82
      go_wp2_with (fail)
      refine (c1 _).mono ?_
      rintro e wq ⟨rfl, rfl⟩
      go_wp2_with (fail)
      refine (c2 _).mono ?_
      rintro e wq ⟨rfl, rfl⟩
      go_wp2_with (fail)
      go_ret2
      exact enc_bad w data m hz _ (Below.refl _ _)
    | true =>
      cases h3 : alikeL data with
      | false =>
        have hz : Hid (encB data m = false) := Lib.hid (by simp [encB, h3])
        rw [h1] at c1
        rw [h2] at c2
        rw [h3] at c3
        clear h1 h2 h3
        go_enter Tryz.func82, Tryz.ntmps82
        go_wp2_with (fail)
        refine (c1 _).mono ?_
        rintro e wq ⟨rfl, rfl⟩
        go_wp2_with (fail)
        refine (c2 _).mono ?_
        rintro e wq ⟨rfl, rfl⟩
        go_wp2_with (fail)
        refine c3.mono ?_
        rintro e wq ⟨rfl, rfl⟩
        go_wp2_with (fail)
        go_ret2
        exact enc_bad w data m hz _ (Below.refl _ _)
      | true =>
        have hz : Hid (encB data m = true) := Lib.hid (by simp [encB, h1, h2, h3])
        obtain ⟨k1, k2, k3, k4, _⟩ := encB_facts hz.out
        have hal := alike_facts h3
        have ok := enc_mul (m := m.toNat) (alike_rect h3) k1 k2 (by omega) (by omega) (hal 0 (by omega)).2.1 (hal 0 (by omega)).2.2
        rw [h1] at c1
        rw [h2] at c2
        rw [h3] at c3
        have c4 := cauchy_any (data.length : Int) m w ht
        have f1 : fitsB (data.length : Int) = true := by simp [fitsB]; omega
        have f2 : fitsB m = true := by simp [fitsB]; omega
        rw [cyL, cyE, f1, f2, show ((data.length : Int)).toNat = data.length by omega] at c4
        simp only [Bool.and_self, if_true] at c4
        have fc := (mkM_rect (cyEl m.toNat) m.toNat data.length).fits (by omega) (by omega)
        have c5 := fun W hW va vb ha hb => mxmul_any va vb (mkM (cyEl m.toNat) m.toNat data.length) data W hW ha hb fc hF
        rw [mulE, if_pos ok] at c5
        have hz1 : Hid (encL data m = mulL (mkM (cyEl m.toNat) m.toNat data.length) data) := Lib.hid (by rw [encL, if_pos hz.out])
        generalize mulL (mkM (cyEl m.toNat) m.toNat data.length) data = X at *
        generalize mkM (cyEl m.toNat) m.toNat data.length = C at *
        clear h1 h2 h3 hal f1 f2
        go_enter Tryz.func82, Tryz.ntmps82
        go_wp2_with (fail)
        refine (c1 _).mono ?_
        rintro e wq ⟨rfl, rfl⟩
        go_wp2_with (fail)
        refine (c2 _).mono ?_
        rintro e wq ⟨rfl, rfl⟩
        go_wp2_with (fail)
        refine c3.mono ?_
        rintro e wq ⟨rfl, rfl⟩
        go_wp2_with (fail)
        refine c4.mono ?_
        rintro e w1 ⟨v1, rfl, o1, b1⟩
        go_wp2_with (fail)
        refine (c5 _ (ht.below b1 ht.two) _ _ o1.reads (hD.below b1)).mono ?_
        rintro e w2 ⟨v2, rfl, o2, b2⟩
        go_wp2_with (fail)
        go_ret2
        exact ⟨v2, by rw [encE, if_pos hz.out]; rfl, by rw [hz1.out]; exact o2.mono b1.size, below_c b1 b2⟩
def idxTo (h : List Bool) (k : Nat) : List Nat := (List.range k).filter fun i => h.getD i false
def idxL (h : List Bool) : List Nat := idxTo h h.length
theorem idxTo_succ (h : List Bool) (k : Nat) : idxTo h (k + 1) = if h.getD k false then idxTo h k ++ [k] else idxTo h k := by
  unfold idxTo
  rw [List.range_succ, List.filter_append]
  by_cases e : h.getD k false = true
  · rw [if_pos e, List.filter_cons_of_pos (p := fun i => h.getD i false) e, List.filter_nil]
  · rw [if_neg e, List.filter_cons_of_neg (p := fun i => h.getD i false) e, List.filter_nil, List.append_nil]
theorem idxTo_len (h : List Bool) (k : Nat) : (idxTo h k).length ≤ k := by
  have := List.length_filter_le (fun i => h.getD i false) (List.range k)
  simpa [idxTo] using this
def bv (l : List Bool) : List Value := l.map .bool
theorem bv_getD (l : List Bool) {i : Nat} (h : i < l.length) : (bv l).getD i .nilFunc = .bool (l.getD i false) := by
  simp [bv, List.getD_eq_getElem?_getD, h]
theorem bv_length (l : List Bool) : (bv l).length = l.length := by simp [bv]
def GivesV (w : World) (E : TypeId) (xs : List Value) (e : Ending) (w' : World) : Prop := ∃ v, e = .returned v ∧ Own w' w.heap.size E v xs ∧ Below w.heap.size w w'
set_option maxRecDepth 100000 in
set_option maxHeartbeats 1000000 in
theorem indexes_any (v : Value) (h : List Bool) (w : World) (hR : Reads w v (bv h)) (hn : h.length ≤ 1000000) :
    Calls Tryz.prog 106 #[v] w (GivesV w 3 (nv (idxL h))) := by
  obtain ⟨i0, hi, hz0, hz1, hz2⟩ := info_parts Tryz.infoI
  have hl := fun W => hR.len_run (P := Tryz.prog) Tryz.underlying89 3 W
  rw [bv_length] at hl
  go_enter Tryz.func106, Tryz.ntmps106
  go_wp2_with (fail)
  go_loopw [3, 4, 5, 8] (fun u _ _ i wr => ∃ k : Nat, k ≤ h.length ∧ i = .int .i64 (k : Int) ∧ Own wr w.heap.size 3 u (nv (idxTo h k)) ∧ Below w.heap.size w wr) (fun _ _ _ i _ => h.length - (RowKit.intOf i).toNat)
  case atStart => exact ⟨0, by omega, rfl, Own.nil _ _ _, Below.refl _ _⟩
  case round =>
    obtain ⟨k, hk, rfl, hown, hbel⟩ := hrel
    obtain ⟨u, rfl⟩ : ∃ v, v = u3 := ⟨_, rfl⟩
    by_cases hlt : k < h.length
    · have b1 : (k : Int) < (h.length : Int) := by omega
      rcases hR.below hbel with ⟨_, e⟩ | ⟨b, off, cap, rfl, hb, hc⟩
      · have := congrArg List.length e; rw [bv_length, List.length_nil] at this; omega
      have hck := hc k (by rw [bv_length]; exact hlt)
      rw [bv_getD h hlt] at hck
      have b2 : (k : Int) < ((bv h).length : Int) := by rw [bv_length]; exact b1
      have hs := idxTo_succ h k
      have hle := idxTo_len h k
      cases hb1 : h.getD k false with
      | true =>
        rw [hb1] at hs hck
        rw [if_pos rfl] at hs
        have hs' := Lib.hid hs
        obtain ⟨v', w', hap, hown4, hb4⟩ := Own.push (P := Tryz.prog) (T := 26) Tryz.underlying26 hi hz0 hz1 hz2 rfl hown (.int .i64 (k : Int)) rfl hbel.size (by rw [nv_length]; omega) (by rw [nv_length]; omega)
        clear hb1 hs hc
        go_wp2_with (at_builtin; refine wpList_append_run hap _ _ rfl rfl rfl rfl rfl ?_)
        go_roundw
        case rel => exact ⟨k + 1, by omega, by go_num, by rw [hs'.out, nv_snoc]; exact hown4, hbel.trans hb4⟩
        case measure => simp [RowKit.intOf]; omega
      | false =>
        rw [hb1] at hs hck
        rw [if_neg (by decide)] at hs
        have hs' := Lib.hid hs
        clear hb1 hs hc
        go_wp2_with (fail)
        go_roundw
        case rel => exact ⟨k + 1, by omega, by go_num, by rw [hs'.out]; exact hown, hbel⟩
        case measure => simp [RowKit.intOf]; omega
    · have e : k = h.length := by omega
      subst e
      go_wp2_with (fail)
      go_ret
      exact ⟨u, rfl, hown, hbel⟩
def chL (r : List Nat) (rows : List ByteArray) : List ByteArray := r.map fun i => rows.getD i ⟨#[]⟩
theorem chL_take_succ (r : List Nat) (rows : List ByteArray) {k : Nat} (h : k < r.length) : tx (chL (r.take (k + 1)) rows) = tx (chL (r.take k) rows) ++ [.string (rows.getD (r.getD k 0) ⟨#[]⟩)] := by
  rw [List.take_succ_eq_append_getElem h, List.getD_eq_getElem?_getD (l := r), List.getElem?_eq_getElem h]
  simp only [chL, tx, List.map_append, List.map_cons, List.map_nil, Option.getD_some]
set_option maxRecDepth 100000 in
set_option maxHeartbeats 1000000 in
theorem choose_any (v pv : Value) (a : Addr) (rows : List ByteArray) (r : List Nat) (w : World) (ha : w.cell? a = some pv) (hal : a.block < w.heap.size) (hP : Reads w pv (nv r)) (hR : Reads w v (tx rows)) (hr : ∀ x ∈ r, x < rows.length) (hl : r.length ≤ 1000) (hn : rows.length ≤ 1000) :
    Calls Tryz.prog 107 #[v, .pointer (some a)] w (GivesT w (chL r rows)) := by
  obtain ⟨i0, hi, hz0, hz1, hz2⟩ := info_parts Tryz.infoS
  have hl1 := fun W => hP.len_run (P := Tryz.prog) Tryz.underlying26 3 W
  rw [nv_length] at hl1
  have hr' := Lib.hid hr
  clear hr
  go_enter Tryz.func107, Tryz.ntmps107
  go_wp2_with (fail)
  go_loopw [4, 6, 9] (fun u _ i wr => ∃ k : Nat, k ≤ r.length ∧ i = .int .i64 (k : Int) ∧ Own wr w.heap.size 9 u (tx (chL (r.take k) rows)) ∧ Below w.heap.size w wr) (fun _ _ i _ => r.length - (RowKit.intOf i).toNat)
  case atStart => exact ⟨0, by omega, rfl, Own.nil _ _ _, Below.refl _ _⟩
  case round =>
    obtain ⟨k, hk, rfl, hown, hbel⟩ := hrel
    obtain ⟨u, rfl⟩ : ∃ v, v = u4 := ⟨_, rfl⟩
    by_cases hlt : k < r.length
    · have b1 : (k : Int) < (r.length : Int) := by omega
      have hrk := getD_lt hr'.out hlt
      rcases hP.below hbel with ⟨_, e⟩ | ⟨bp, op, cp, rfl, hbp, hcp⟩
      · have := congrArg List.length e; rw [nv_length, List.length_nil] at this; omega
      rcases (hR.below hbel).srow with ⟨_, e⟩ | ⟨br, or_, cr, rfl, hSr⟩
      · rw [e] at hrk; simp at hrk
      have hck := hcp k (by rw [nv_length]; exact hlt)
      rw [nv_getD r hlt] at hck
      have hcr := hSr.cell (r.getD k 0) hrk
      have b2 : (k : Int) < ((nv r).length : Int) := by rw [nv_length]; exact b1
      have b3 : ((r.getD k 0 : Nat) : Int) < (rows.length : Int) := by omega
      have hnx := Lib.hid (chL_take_succ r rows hlt)
      have hfl : (tx (chL (r.take k) rows)).length = k := by simp [chL]; omega
      obtain ⟨v', w', hap, hown4, hb4⟩ := Own.push (P := Tryz.prog) (T := 39) Tryz.underlying39 hi hz0 hz1 hz2 rfl hown (.string (rows.getD (r.getD k 0) ⟨#[]⟩)) rfl hbel.size (by rw [hfl]; omega) (by rw [hfl]; omega)
      clear hcp hrk hfl
      generalize rows.getD (r.getD k 0) ⟨#[]⟩ = row at *
      generalize r.getD k 0 = rk at *
      go_wp2_with (at_builtin; refine wpList_append_run hap _ _ rfl rfl rfl rfl rfl ?_)
      go_roundw
      case rel => exact ⟨k + 1, by omega, by go_num, by rw [hnx.out]; exact hown4, hbel.trans hb4⟩
      case measure => simp [RowKit.intOf]; omega
    · have e : k = r.length := by omega
      subst e
      go_wp2_with (fail)
      go_ret
      rw [List.take_length] at hown
      exact ⟨u, rfl, hown, hbel⟩
def genL (k m : Nat) : List ByteArray := mkM idEl k k ++ mkM (cyEl m) m k
theorem genL_length (k m : Nat) : (genL k m).length = k + m := by simp [genL, mkM]
set_option maxRecDepth 100000 in
set_option maxHeartbeats 1000000 in
theorem generator_any (k m : Nat) (w : World) (ht : Tabs w) (k1 : 1 ≤ k) (k2 : k ≤ 8) (m1 : 1 ≤ m) (m2 : m ≤ 8) :
    Calls Tryz.prog 110 #[.int .i64 (k : Int), .int .i64 (m : Int)] w (GivesT w (genL k m)) := by
  obtain ⟨hid1, hid2⟩ := idL_nat k1 (show k ≤ 16 by omega)
  have hid := identity_any (k : Int) w
  rw [hid1, hid2] at hid
  have hcy := fun W hW => cauchy_any (k : Int) (m : Int) W hW
  have hfk : fitsB (k : Int) = true := by simp [fitsB]; omega
  have hfm : fitsB (m : Int) = true := by simp [fitsB]; omega
  rw [cyL, cyE, hfk, hfm, show ((m : Int)).toNat = m by omega, show ((k : Int)).toNat = k by omega] at hcy
  simp only [Bool.and_self, if_true] at hcy
  have la := mkM_length idEl k k
  have lb := mkM_length (cyEl m) m k
  rw [genL]
  generalize mkM idEl k k = a at *
  generalize mkM (cyEl m) m k = b at *
  clear hid1 hid2 hfk hfm
  have la' : 1 ≤ a.length ∧ a.length ≤ 100 := by omega
  have lb' : 1 ≤ b.length ∧ b.length ≤ 100 := by omega
  clear la lb
  go_enter Tryz.func110, Tryz.ntmps110
  go_wp2_with (fail)
  refine hid.mono ?_
  rintro e w1 ⟨v1, rfl, o1, b1⟩
  go_wp2_with (fail)
  refine (hcy _ (ht.below b1 ht.two)).mono ?_
  rintro e w2 ⟨v2, rfl, o2, b2⟩
  have r1 := o1.reads.below b2
  have r2 := o2.reads
  obtain ⟨g1, cap1, hv1, hg1, hg1'⟩ := o1.form (by rw [List.length_map]; omega)
  obtain ⟨g2, cap2, hv2, hg2, hg2'⟩ := o2.form (by rw [List.length_map]; omega)
  rw [List.length_map] at hv1 hv2
  subst hv1
  subst hv2
  have bA := (Below.refl w2.heap.size w2).alloc (Nat.le_refl _) (.cells #[.slice (some ⟨g1, 0, none⟩) a.length cap1, .slice (some ⟨g2, 0, none⟩) b.length cap2] 39)
  have hcc := concat_two _ _ a b w2.heap.size 2 (w2.alloc (.cells #[.slice (some ⟨g1, 0, none⟩) a.length cap1, .slice (some ⟨g2, 0, none⟩) b.length cap2] 39)) (by simp) (by rw [World.cell?_alloc_mark]; rfl) (by rw [World.cell?_alloc_mark]; rfl) (r1.below bA) (r2.below bA) la'.1 la'.2 lb'.2
  go_wp2_with (fail)
  refine hcc.mono ?_
  rintro e w3 ⟨v3, rfl, o3, b3⟩
  go_wp2_with (fail)
  go_ret
  exact ⟨v3, rfl, o3.mono (Nat.le_trans (below_c b1 b2).size (by simp)), below_c (below_c b1 b2) (bA.trans (b3.mono (by simp)))⟩
end Go.Proofs.YtjgafpkpoppcbaaGreatDoor
end
section
namespace Go.Proofs.YtjgafpkpoppcbaaGreatDoor
open Go.RowKit
theorem S_filter (p : Nat → Bool) (f : Nat → Mx.F) : ∀ n, (∀ j, j < n → p j = false → f j = 0) → Mx.S n f = Mx.S ((List.range n).filter p).length (fun t => f (((List.range n).filter p).getD t 0))
  | 0, _ => rfl
  | n + 1, h => by
    rw [Mx.S_succ, S_filter p f n (fun j hj hp => h j (by omega) hp), List.range_succ, List.filter_append]
    cases hp : p n with
    | true =>
      rw [List.filter_cons_of_pos hp, List.filter_nil, List.length_append]
      show _ = Mx.S (_ + 1) _
      rw [Mx.S_succ]
      congr 1
      · refine Mx.S_congr fun t ht => ?_
        rw [List.getD_eq_getElem?_getD, List.getD_eq_getElem?_getD, List.getElem?_append_left ht]
      · rw [List.getD_eq_getElem?_getD, List.getElem?_append_right (Nat.le_refl _)]
        simp
    | false =>
      rw [List.filter_cons_of_neg (by simp [hp]), List.filter_nil, List.append_nil, h n (by omega) hp, Mx.add_zero]
theorem filter_parts (p : Nat → Bool) : ∀ l : List Nat, l.length = (l.filter p).length + (l.filter fun x => !p x).length
  | [] => rfl
  | x :: l => by
    have ih := filter_parts p l
    cases h : p x <;> simp [List.filter_cons, h] <;> omega
theorem chL_length (r : List Nat) (rows : List ByteArray) : (chL r rows).length = r.length := by simp [chL]
theorem chL_get (r : List Nat) (rows : List ByteArray) {a : Nat} (h : a < r.length) : (chL r rows).getD a ⟨#[]⟩ = rows.getD (r.getD a 0) ⟨#[]⟩ := by
  simp [chL, List.getD_eq_getElem?_getD, h]
theorem genL_get1 {k m i : Nat} (h : i < k) : (genL k m).getD i ⟨#[]⟩ = (mkM idEl k k).getD i ⟨#[]⟩ := by
  rw [genL, List.getD_eq_getElem?_getD, List.getElem?_append_left (by rw [mkM_length]; exact h), List.getD_eq_getElem?_getD]
theorem genL_get2 {k m i : Nat} (h : k ≤ i) : (genL k m).getD i ⟨#[]⟩ = (mkM (cyEl m) m k).getD (i - k) ⟨#[]⟩ := by
  rw [genL, List.getD_eq_getElem?_getD, List.getElem?_append_right (by rw [mkM_length]; exact h), mkM_length, List.getD_eq_getElem?_getD]
theorem genL_rect (k m : Nat) : Rect (genL k m) (k + m) k := by
  refine ⟨genL_length k m, fun i hi => ?_⟩
  rcases Nat.lt_or_ge i k with h | h
  · rw [genL_get1 h]; exact mkM_size _ h
  · rw [genL_get2 h]; exact mkM_size _ (by omega)
theorem genL_el1 {k m i j : Nat} (h : i < k) (hj : j < k) : el (genL k m) i j = Mx.one1 i j := by
  rw [← id_el h hj]
  apply Mx.F.ext
  rw [el_v, genL_get1 h, el_v]
theorem genL_el2 {k m i j : Nat} (hm : m ≤ 16) (hk : k ≤ 16) (h1 : k ≤ i) (h2 : i < k + m) (hj : j < k) : el (genL k m) i j = (toF (i - k) + toF (m + j)).inv := by
  apply Mx.F.ext
  rw [el_v, genL_get2 h1, ← el_v (mkM (cyEl m) m k), mkM_el _ (by omega) hj, cyEl_toNat, Mx.v_inv, toF_add (by omega) (by omega), toF_v (Gf.xor_lt (by omega) (by omega))]
theorem chL_rect {r : List Nat} {rows : List ByteArray} {k m n : Nat} (h : Rect rows m n) (hr : ∀ x ∈ r, x < m) (hl : r.length = k) : Rect (chL r rows) k n := by
  refine ⟨by rw [chL_length, hl], fun a ha => ?_⟩
  rw [chL_get r rows (by omega)]
  exact h.s _ (getD_lt hr (by omega))
theorem mem_getD {l : List Nat} {x : Nat} (h : x ∈ l) : ∃ a, a < l.length ∧ l.getD a 0 = x := by
  obtain ⟨a, ha, he⟩ := List.getElem_of_mem h
  exact ⟨a, ha, by rw [List.getD_eq_getElem?_getD, List.getElem?_eq_getElem ha]; exact he⟩
theorem getD_mem {l : List Nat} {a : Nat} (h : a < l.length) : l.getD a 0 ∈ l := by
  rw [List.getD_eq_getElem?_getD, List.getElem?_eq_getElem h]; exact List.getElem_mem h
theorem gen_inv {k m : Nat} {r : List Nat} (k1 : 1 ≤ k) (k2 : k ≤ 8) (m2 : m ≤ 8) (hl : r.length = k) (hn : r.Nodup) (hr : ∀ x ∈ r, x < k + m) : invE (chL r (genL k m)) = 0 := by
  have hG := chL_rect (genL_rect k m) hr hl
  rcases inv_cases hG k1 (by omega) with ⟨e, _⟩ | ⟨_, _, v, q, hq, hv1, hv2⟩
  · exact e
  · exfalso
    have hel : ∀ a j, a < k → el (chL r (genL k m)) a j = el (genL k m) (r.getD a 0) j := fun a j ha => by
      apply Mx.F.ext
      rw [el_v, chL_get r _ (by omega), el_v]
    -- what has a row of its own
    have hD : ∀ x ∈ r, x < k → v x = 0 := fun x hx hxk => by
      obtain ⟨a, ha, rfl⟩ := mem_getD hx
      have := hv2 a (by omega)
      rw [Mx.S_congr (g := fun t => Mx.one1 (r.getD a 0) t * v t) (fun t ht => by rw [hel a t (by omega), genL_el1 hxk ht])] at this
      rwa [S_pick hxk] at this
    let p : Nat → Bool := fun j => !decide (j ∈ r)
    let U := (List.range k).filter p
    let P := r.filter (fun x => !decide (x < k))
    have hU : ∀ j, j ∈ U ↔ j < k ∧ j ∉ r := fun j => by simp [U, p]
    have hP : ∀ x, x ∈ P ↔ x ∈ r ∧ k ≤ x := fun x => by simp [P]
    have nU : U.Nodup := List.Pairwise.filter _ List.nodup_range
    have nP : P.Nodup := List.Pairwise.filter _ hn
    have nD : (r.filter fun x => decide (x < k)).Nodup := List.Pairwise.filter _ hn
    have hcount : U.length ≤ P.length := by
      have h1 := mnodup_le k (U ++ r.filter fun x => decide (x < k)) (by
        rw [List.nodup_append]
        refine ⟨nU, nD, fun a ha b hb e => ?_⟩
        subst e
        have h2 := (hU a).1 ha
        simp at hb
        exact h2.2 hb.1) (fun x hx => by
        rw [List.mem_append] at hx
        rcases hx with hx | hx
        · exact ((hU x).1 hx).1
        · simp at hx; exact hx.2)
      have h2 := filter_parts (fun x => decide (x < k)) r
      rw [List.length_append] at h1
      have h3 : (r.filter fun x => !decide (x < k)).length = P.length := rfl
      omega
    have hUk : ∀ t, t < U.length → U.getD t 0 < k ∧ U.getD t 0 ∉ r := fun t ht => (hU _).1 (getD_mem ht)
    have hPk : ∀ t, t < P.length → P.getD t 0 ∈ r ∧ k ≤ P.getD t 0 ∧ P.getD t 0 < k + m := fun t ht => by
      have := (hP _).1 (getD_mem ht)
      exact ⟨this.1, this.2, hr _ this.1⟩
    have hker := Mx.cauchy_kernel U.length (fun t => toF (P.getD t 0 - k)) (fun t => toF (m + U.getD t 0)) (fun t => v (U.getD t 0))
      (fun i j hi hj hne => by
        have h1 := hPk i (by omega)
        have h2 := hPk j (by omega)
        have h3 := getD_ne nP (show i < P.length by omega) (show j < P.length by omega) hne
        exact toF_ne (by omega) (by omega) (by omega))
      (fun i j hi hj hne => by
        have h1 := hUk i hi
        have h2 := hUk j hj
        have h3 := getD_ne nU hi hj hne
        exact toF_ne (by omega) (by omega) (by omega))
      (fun i j hi hj => by
        have h1 := hPk i (by omega)
        have h2 := hUk j hj
        rw [toF_add (by omega) (by omega)]
        intro e
        have := congrArg Mx.F.v e
        rw [toF_v (Gf.xor_lt (by omega) (by omega)), Mx.v_zero] at this
        exact xor_pos' (a := P.getD i 0 - k) (b := m + U.getD j 0) (by omega) this)
      (fun i hi => by
        have h1 := hPk i (by omega)
        obtain ⟨a, ha, hae⟩ := mem_getD h1.1
        have h2 := hv2 a (by omega)
        rw [S_filter p _ k (fun j hj hp => by
          have : j ∈ r := by simpa [p] using hp
          rw [hD j this hj, Mx.mul_zero])] at h2
        rw [← h2]
        refine Mx.S_congr fun t ht => ?_
        have h3 := hUk t ht
        show v (U.getD t 0) * _ = _
        rw [Mx.mul_comm, hel a _ (by omega), hae, genL_el2 (by omega) (by omega) h1.2.1 h1.2.2 h3.1])
    have hz : v q = 0 := by
      by_cases hqr : q ∈ r
      · exact hD q hqr hq
      · obtain ⟨t, ht, hte⟩ := mem_getD ((hU q).2 ⟨hq, hqr⟩)
        rw [← hte]; exact hker t ht
    rw [hv1] at hz
    exact Mx.one_ne hz
theorem decode_back {k m L : Nat} {r : List Nat} {data got : List ByteArray} (k1 : 1 ≤ k) (k2 : k ≤ 8) (m2 : m ≤ 8) (hl : r.length = k) (hn : r.Nodup) (hr : ∀ x ∈ r, x < k + m) (hd : Rect data k L) (hg : Rect got k L) (L1 : 1 ≤ L) (L2 : L ≤ 4096)
    (h : ∀ a j, a < k → j < L → el got a j = Mx.mul k (el (genL k m)) (el data) (r.getD a 0) j) : mulL (invL (chL r (genL k m))) got = data ∧ mulE (invL (chL r (genL k m))) got = 0 := by
  have hG := chL_rect (genL_rect k m) hr hl
  rcases inv_cases hG k1 (by omega) with ⟨_, rI, i1, i2⟩ | ⟨e, _⟩
  · have ok := mulOk_of rI hg k1 (by omega) k1 (by omega) L1 L2
    refine ⟨(mulL_rect rI hg k1 ok).ext hd fun i j hi hj => ?_, by rw [mulE, if_pos ok]⟩
    rw [mulL_el rI hg k1 ok hi hj]
    rw [Mx.mul_congr (A' := el (invL (chL r (genL k m)))) (B' := Mx.mul k (el (chL r (genL k m))) (el data)) (fun _ _ => rfl) (fun a ha => by
      rw [h a j ha hj]
      refine Mx.S_congr fun t ht => ?_
      congr 1
      apply Mx.F.ext
      rw [el_v, el_v, chL_get r _ (by omega)]), ← Mx.mmul_assoc, Mx.mul_congr (A' := Mx.one1) (B' := el data) (fun t ht => i1 i t hi ht) (fun _ _ => rfl), Mx.one_mul_at _ hi]
  · rw [gen_inv k1 k2 m2 hl hn hr] at e; cases e
def wordL (data : List ByteArray) (k m : Nat) : List ByteArray := data ++ mulL (mkM (cyEl m) m k) data
theorem word_el {k m L : Nat} {data : List ByteArray} (hd : Rect data k L) (k1 : 1 ≤ k) (k2 : k ≤ 8) (m1 : 1 ≤ m) (m2 : m ≤ 8) (L1 : 1 ≤ L) (L2 : L ≤ 4096) {i j : Nat} (hi : i < k + m) (hj : j < L) :
    el (wordL data k m) i j = Mx.mul k (el (genL k m)) (el data) i j := by
  have ok := enc_mul hd k1 k2 m1 m2 L1 L2
  rcases Nat.lt_or_ge i k with h | h
  · have e : (wordL data k m).getD i ⟨#[]⟩ = data.getD i ⟨#[]⟩ := by
      rw [wordL, List.getD_eq_getElem?_getD, List.getElem?_append_left (by rw [hd.l]; exact h), List.getD_eq_getElem?_getD]
    rw [Mx.mul_congr (A' := Mx.one1) (B' := el data) (fun t ht => genL_el1 h ht) (fun _ _ => rfl), Mx.one_mul_at _ h]
    apply Mx.F.ext
    rw [el_v, e, el_v]
  · have e : (wordL data k m).getD i ⟨#[]⟩ = (mulL (mkM (cyEl m) m k) data).getD (i - k) ⟨#[]⟩ := by
      rw [wordL, List.getD_eq_getElem?_getD, List.getElem?_append_right (by rw [hd.l]; exact h), hd.l, List.getD_eq_getElem?_getD]
    have e2 := mulL_el (mkM_rect (cyEl m) m k) hd k1 ok (show i - k < m by omega) hj
    apply Mx.F.ext
    rw [el_v, e, ← el_v (mulL (mkM (cyEl m) m k) data), e2]
    congr 1
    refine Mx.S_congr fun t ht => ?_
    congr 1
    apply Mx.F.ext
    rw [el_v, el_v, genL_get2 h]
theorem word_rect {k m L : Nat} {data : List ByteArray} (hd : Rect data k L) (k1 : 1 ≤ k) (k2 : k ≤ 8) (m1 : 1 ≤ m) (m2 : m ≤ 8) (L1 : 1 ≤ L) (L2 : L ≤ 4096) : Rect (wordL data k m) (k + m) L := by
  have ok := enc_mul hd k1 k2 m1 m2 L1 L2
  have hp := mulL_rect (mkM_rect (cyEl m) m k) hd k1 ok
  refine ⟨by rw [wordL, List.length_append, hd.l, hp.l], fun i hi => ?_⟩
  rcases Nat.lt_or_ge i k with h | h
  · rw [wordL, List.getD_eq_getElem?_getD, List.getElem?_append_left (by rw [hd.l]; exact h), ← List.getD_eq_getElem?_getD]; exact hd.s i h
  · rw [wordL, List.getD_eq_getElem?_getD, List.getElem?_append_right (by rw [hd.l]; exact h), hd.l, ← List.getD_eq_getElem?_getD]; exact hp.s _ (by omega)
end Go.Proofs.YtjgafpkpoppcbaaGreatDoor
end
section
namespace Go.Proofs.YtjgafpkpoppcbaaGreatDoor
open Go.RowKit
theorem Reads.form {w : World} {v : Value} {xs : List Value} (h : Reads w v xs) : ∃ a c, v = .slice a xs.length c := by
  rcases h with ⟨⟨a0, c0, rfl⟩, rfl⟩ | ⟨b, off, cap, rfl, _⟩
  · exact ⟨a0, c0, rfl⟩
  · exact ⟨_, _, rfl⟩
theorem Own.capOk {w : World} {B : Nat} {E : TypeId} {v : Value} {xs : List Value} (h : Own w B E v xs) : capOk v := by
  rcases h.o.2 with ⟨rfl, _⟩ | ⟨g, cap, cur, rfl, _, _, h4, _⟩
  · exact Nat.le_refl _
  · exact h4
def decB (m : Int) (shards : List ByteArray) (hv : List Bool) : Bool := fits8 m && fits8 ((shards.length : Int) - m) && (hv.length == shards.length)
def decK (m : Int) (shards : List ByteArray) : Nat := ((shards.length : Int) - m).toNat
def decI (m : Int) (shards : List ByteArray) (hv : List Bool) : List Nat := (idxL hv).take (decK m shards)
def decO (m : Int) (shards : List ByteArray) (hv : List Bool) : Bool := decB m shards hv && alikeL (chL (idxL hv) shards)
def decL (m : Int) (shards : List ByteArray) (hv : List Bool) : List ByteArray :=
  if decO m shards hv && decide (decK m shards ≤ (idxL hv).length) then mulL (invL (chL (decI m shards hv) (genL (decK m shards) m.toNat))) (chL (decI m shards hv) shards) else []
def decE (m : Int) (shards : List ByteArray) (hv : List Bool) : Int := if decO m shards hv then (if decK m shards ≤ (idxL hv).length then 0 else 31) else 30
theorem idxL_lt (h : List Bool) : ∀ x ∈ idxL h, x < h.length := fun x hx => by
  simp [idxL, idxTo] at hx; exact hx.1
theorem idxL_nodup (h : List Bool) : (idxL h).Nodup := List.Pairwise.filter _ List.nodup_range
theorem decB_facts {m : Int} {shards : List ByteArray} {hv : List Bool} (h : decB m shards hv = true) : 1 ≤ m ∧ m ≤ 8 ∧ 1 ≤ decK m shards ∧ decK m shards ≤ 8 ∧ hv.length = shards.length ∧ shards.length = decK m shards + m.toNat := by
  unfold decB at h
  simp only [Bool.and_eq_true, fits8, decide_eq_true_eq, beq_iff_eq] at h
  unfold decK
  omega
theorem dec_rect {m : Int} {shards : List ByteArray} {hv : List Bool} (h : decO m shards hv = true) (hk : decK m shards ≤ (idxL hv).length) :
    (decI m shards hv).length = decK m shards ∧ (decI m shards hv).Nodup ∧ (∀ x ∈ decI m shards hv, x < decK m shards + m.toNat) ∧ ∃ L, 1 ≤ L ∧ L ≤ 4096 ∧ Rect (chL (decI m shards hv) shards) (decK m shards) L := by
  unfold decO at h
  rw [Bool.and_eq_true] at h
  obtain ⟨h1, h2⟩ := h
  obtain ⟨f1, f2, f3, f4, f5, f6⟩ := decB_facts h1
  have hl : (decI m shards hv).length = decK m shards := by rw [decI, List.length_take]; omega
  refine ⟨hl, (idxL_nodup hv).sublist (List.take_sublist _ _), fun x hx => ?_, ?_⟩
  · have := idxL_lt hv x (List.mem_of_mem_take hx); omega
  · have hal := alike_facts h2
    have h0 := hal 0 (by rw [chL_length]; omega)
    refine ⟨((chL (idxL hv) shards).getD 0 ⟨#[]⟩).size, h0.2.1, h0.2.2, by rw [chL_length, hl], fun a ha => ?_⟩
    have h3 := (hal a (by rw [chL_length]; omega)).1
    rw [chL_get _ _ (by omega)] at h3
    have e : (decI m shards hv).getD a 0 = (idxL hv).getD a 0 := by
      rw [decI, List.getD_eq_getElem?_getD, List.getElem?_take, if_pos ha, ← List.getD_eq_getElem?_getD]
    rw [chL_get _ _ (by omega), e, h3]
theorem dec_bad (w : World) (m : Int) (shards : List ByteArray) (hv : List Bool) (h : Hid (decO m shards hv = false)) (W : World) (hb : Below w.heap.size w W) : GivesL w (decL m shards hv) (decE m shards hv) (.returned (.tuple #[.slice none 0 0, .int .i64 30])) W :=
  ⟨.slice none 0 0, by rw [decE, h.out]; rfl, by rw [decL, h.out]; exact Own.nil _ _ _, hb⟩
set_option maxRecDepth 100000 in
set_option maxHeartbeats 2000000 in
theorem decode_form (m : Int) (vs vh : Value) (shards : List ByteArray) (hv : List Bool) (w : World) (hS : Reads w vs (tx shards)) (hH : Reads w vh (bv hv)) (hn : shards.length ≤ 1000000) (hh : hv.length ≤ 140737488355328) (h : decB m shards hv = false) :
    Calls Tryz.prog 70 #[.int .i64 m, vs, vh] w (GivesL w (decL m shards hv) (decE m shards hv)) := by
  have hz : Hid (decO m shards hv = false) := Lib.hid (by rw [decO, h]; rfl)
  have ls := fun W => hS.len_run (P := Tryz.prog) Tryz.underlying39 3 W
  have lh := fun W => hH.len_run (P := Tryz.prog) Tryz.underlying89 3 W
  rw [List.length_map] at ls
  rw [bv_length] at lh
  have c1 := fun W => rsfits_any m W
  have c2 := fun W => rsfits_any ((shards.length : Int) - m) W
  cases h1 : fits8 m with
  | false =>
    rw [h1] at c1
    clear h1 h
    go_enter Tryz.func70, Tryz.ntmps70
    go_wp2_with (fail)
    refine (c1 _).mono ?_
    rintro e wq ⟨rfl, rfl⟩
    go_wp2_with (fail)
    go_ret2
    exact dec_bad w m shards hv hz _ (Below.refl _ _)
  | true =>
    have hm : 1 ≤ m ∧ m ≤ 8 := by simpa [fits8] using h1
    obtain ⟨hm1, hm2⟩ := hm
    cases h2 : fits8 ((shards.length : Int) - m) with
    | false =>
      rw [h1] at c1
      rw [h2] at c2
      clear h1 h2 h
      go_enter Tryz.func70, Tryz.ntmps70
      go_wp2_with (fail)
      refine (c1 _).mono ?_
      rintro e wq ⟨rfl, rfl⟩
      go_wp2_with (fail)
      refine (c2 _).mono ?_
      rintro e wq ⟨rfl, rfl⟩
      go_wp2_with (fail)
      go_ret2
      exact dec_bad w m shards hv hz _ (Below.refl _ _)
    | true =>
      have e3 : (((hv.length : Nat) : Int) != ((shards.length : Nat) : Int)) = true := by
        rw [decB, h1, h2] at h
        simp at h
        rw [bne_iff_ne]; omega
      rw [h1] at c1
      rw [h2] at c2
      clear h1 h2 h
      go_enter Tryz.func70, Tryz.ntmps70
      go_wp2_with (fail)
      refine (c1 _).mono ?_
      rintro e wq ⟨rfl, rfl⟩
      go_wp2_with (fail)
      refine (c2 _).mono ?_
      rintro e wq ⟨rfl, rfl⟩
      go_wp2_with (fail)
      go_ret2
      exact dec_bad w m shards hv hz _ (Below.refl _ _)
set_option maxRecDepth 100000 in
set_option maxHeartbeats 4000000 in
theorem decode_right (M : Nat) (vs vh : Value) (shards : List ByteArray) (hv : List Bool) (w : World) (ht : Tabs w) (hS : Reads w vs (tx shards)) (hH : Reads w vh (bv hv)) (fs : Fits shards) (h : decB (M : Int) shards hv = true) :
    Calls Tryz.prog 70 #[.int .i64 (M : Int), vs, vh] w (GivesL w (decL (M : Int) shards hv) (decE (M : Int) shards hv)) := by
  obtain ⟨i1, hi1, hy0, hy1, hy2⟩ := info_parts Tryz.infoI
  obtain ⟨f1, f2, f3, f4, f5, f6⟩ := decB_facts h
  rw [show ((M : Int)).toNat = M by omega] at f6
  have ls := fun W => hS.len_run (P := Tryz.prog) Tryz.underlying39 3 W
  have lh := fun W => hH.len_run (P := Tryz.prog) Tryz.underlying89 3 W
  rw [List.length_map] at ls
  rw [bv_length, f5] at lh
  have c1 := fun W => rsfits_any (M : Int) W
  have h' := h
  unfold decB at h'
  simp only [Bool.and_eq_true] at h'
  rw [h'.1.1] at c1
  have ci := indexes_any vh hv w hH (by omega)
  have hidx := idxL_lt hv
  have hlen : (idxL hv).length ≤ hv.length := idxTo_len hv hv.length
  have hO : decO (M : Int) shards hv = alikeL (chL (idxL hv) shards) := by rw [decO, h]; rfl
  obtain ⟨k, hk⟩ : ∃ k, decK (M : Int) shards = k := ⟨_, rfl⟩
  have c2 := fun W => rsfits_any (k : Int) W
  rw [show fits8 (k : Int) = true by simp [fits8]; omega] at c2
  have hK : (shards.length : Int) - (M : Int) = (k : Int) := by omega
  have hz : Hid (decO (M : Int) shards hv = alikeL (chL (idxL hv) shards)) := Lib.hid hO
  have hLz : Hid (alikeL (chL (idxL hv) shards) = true → k ≤ (idxL hv).length → decL (M : Int) shards hv = mulL (invL (chL ((idxL hv).take k) (genL k M))) (chL ((idxL hv).take k) shards) ∧ invE (chL ((idxL hv).take k) (genL k M)) = 0 ∧ mulE (invL (chL ((idxL hv).take k) (genL k M))) (chL ((idxL hv).take k) shards) = 0 ∧ Fits (chL ((idxL hv).take k) (genL k M)) ∧ Fits (invL (chL ((idxL hv).take k) (genL k M))) ∧ Fits (chL ((idxL hv).take k) shards)) := Lib.hid (fun ha hkl => by
    have hO2 : decO (M : Int) shards hv = true := by rw [hO]; exact ha
    obtain ⟨g1, g2, g3, L, g4, g5, g6⟩ := dec_rect hO2 (by omega)
    have hI : decI (M : Int) shards hv = (idxL hv).take k := by rw [decI, hk]
    rw [hI, hk] at g1 g6
    rw [hI] at g2 g3
    rw [hk, show ((M : Int)).toNat = M by omega] at g3
    have hG := chL_rect (genL_rect k M) g3 g1
    have e0 := gen_inv (m := M) (by omega) (by omega) (by omega) g1 g2 g3
    rcases inv_cases hG (by omega) (by omega) with ⟨_, rI, _⟩ | ⟨e, _⟩
    · have ok := mulOk_of rI g6 (by omega) (by omega) (by omega) (by omega) g4 g5
      refine ⟨?_, e0, by rw [mulE, if_pos ok], hG.fits (by omega) (by omega), rI.fits (by omega) (by omega), g6.fits (by omega) (by omega)⟩
      rw [decL, hO2, hI, hk, show ((M : Int)).toNat = M by omega, decide_eq_true (show k ≤ (idxL hv).length from hkl)]; rfl
    · rw [e0] at e; cases e)
  have hEz : Hid (decE (M : Int) shards hv = if alikeL (chL (idxL hv) shards) then (if k ≤ (idxL hv).length then 0 else 31) else 30) := Lib.hid (by rw [decE, hO, hk])
  have hLf : Hid (alikeL (chL (idxL hv) shards) = true → ¬ k ≤ (idxL hv).length → decL (M : Int) shards hv = []) := Lib.hid (fun ha hkl => by
    rw [decL, hO, ha, hk, decide_eq_false hkl]; rfl)
  have fch : Hid (Fits (chL (idxL hv) shards)) := Lib.hid ⟨by rw [chL_length]; omega, fun i hi => by
    rw [chL_length] at hi
    rw [chL_get _ _ hi]
    exact fs.m _ (by have := getD_lt hidx hi; omega)⟩
  have f6' := Lib.hid f6
  have f5' := Lib.hid f5
  have hM8 : M ≤ 8 := by omega
  have hM1 : 1 ≤ M := by omega
  have hs16 : shards.length ≤ 16 := by omega
  rw [hk] at f3 f4
  have hidx' : Hid (∀ x ∈ idxL hv, x < shards.length) := Lib.hid (fun x hx => by rw [← f5]; exact hidx x hx)
  have hlen' : (idxL hv).length ≤ 16 := by omega
  clear h h' hO hk hidx hlen f1 f2 f5 f6
  generalize idxL hv = r at *
  go_enter Tryz.func70, Tryz.ntmps70
  go_wp2_with (fail)
  refine (c1 _).mono ?_
  rintro e wq ⟨rfl, rfl⟩
  go_wp2_with (fail)
  refine (c2 _).mono ?_
  rintro e wq ⟨rfl, rfl⟩
  go_wp2_with (fail)
  refine ci.mono ?_
  rintro e w1 ⟨pv, rfl, o1, b1⟩
  obtain ⟨pa, pc, hpv⟩ := o1.reads.form
  have hcap := o1.capOk
  rw [nv_length] at hpv
  subst hpv
  have bA := (Below.refl w1.heap.size w1).alloc (Nat.le_refl _) (.cells #[.slice pa r.length pc] 26)
  have bA' : Below w.heap.size w (w1.alloc (.cells #[.slice pa r.length pc] 26)) := below_c b1 bA
  have hch := choose_any vs (.slice pa r.length pc) ⟨w1.heap.size, 0, none⟩ shards r (w1.alloc (.cells #[.slice pa r.length pc] 26)) (by rw [World.cell?_alloc_mark]; rfl) (by simp) (o1.reads.below bA) (hS.below bA') hidx'.out (by omega) (by omega)
  go_wp2_with (fail)
  refine hch.mono ?_
  rintro e w2 ⟨v2, rfl, o2, b2⟩
  have hg2 : w1.heap.size < w2.heap.size := Nat.lt_of_lt_of_le (by simp) b2.size
  have cp2 : w2.cell? ⟨w1.heap.size, 0, none⟩ = some (.slice pa r.length pc) := by
    rw [b2.cell (p := ⟨w1.heap.size, 0, none⟩) (by simp), World.cell?_alloc_mark]; rfl
  have fp2 : w2.frozen? ⟨w1.heap.size, 0, none⟩ = false := by
    rw [b2.frozen (p := ⟨w1.heap.size, 0, none⟩) (by simp)]; exact frozen_of_row _ _ _ _ _ (heap_alloc_new _ _)
  have hal := alike_any v2 (chL r shards) w2 o2.reads fch.out
  have bw2 : Below w.heap.size w w2 := bA'.trans (b2.mono bA'.size)
  have bwp : Below w1.heap.size w1 w2 := bA.trans (b2.mono (by simp))
  go_wp2_with (fail)
  cases ha : alikeL (chL r shards) with
  | false =>
    rw [ha] at hal
    have hzz := hz.out
    rw [ha] at hzz
    have hz' := Lib.hid hzz
    clear hzz ha hEz hLz hLf hz
    refine hal.mono ?_
    rintro e wq ⟨rfl, rfl⟩
    go_wp2_with (fail)
    go_ret2
    exact dec_bad w (M : Int) shards hv hz' _ bw2
  | true =>
    rw [ha] at hal
    have hE2 := hEz.out
    rw [ha, if_pos rfl] at hE2
    by_cases hkl : k ≤ r.length
    · obtain ⟨q1, q2, q3, q4, q5, q6⟩ := hLz.out ha hkl
      rw [if_pos hkl] at hE2
      have hE3 := Lib.hid hE2
      have hL3 := Lib.hid q1
      have e1 : decide (r.length < k) = false := by rw [decide_eq_false_iff_not]; omega
      obtain ⟨gp, cp, hpa, hgp1, hgp2⟩ := o1.form (by rw [nv_length]; omega)
      simp only [Value.slice.injEq] at hpa
      obtain ⟨rfl, _, rfl⟩ := hpa
      have hkc : k ≤ pc := by
        have h5 : r.length ≤ pc := hcap
        omega
      have hkc' : (k : Int) ≤ (pc : Int) := by omega
      have hpc0 : ¬ pc = 0 := by omega
      have hT : ∀ x ∈ r.take k, x < shards.length := fun x hx => hidx'.out x (List.mem_of_mem_take hx)
      have hT2 : ∀ x ∈ r.take k, x < (genL k M).length := fun x hx => by rw [genL_length]; have := hT x hx; omega
      have hTl : (r.take k).length ≤ 1000 := by rw [List.length_take]; omega
      have hT' := Lib.hid hT
      have hT2' := Lib.hid hT2
      have t2 : Tabs w2 := ht.below bw2 ht.two
      have hw2 : 2 ≤ w1.heap.size := (ht.below b1 ht.two).two
      have b3 : Below w1.heap.size w2 (w2.setCell ⟨w1.heap.size, 0, none⟩ (.slice (some ⟨gp, 0, none⟩) k pc)) := (Below.refl w1.heap.size w2).setCell (p := ⟨w1.heap.size, 0, none⟩) (Nat.le_refl _) _
      have t3 : Tabs (w2.setCell ⟨w1.heap.size, 0, none⟩ (.slice (some ⟨gp, 0, none⟩) k pc)) := t2.below b3 hw2
      have hgn := generator_any k M _ t3 f3 f4 hM1 hM8
      have hinv := fun W hW v hv => inverse_any v (chL (r.take k) (genL k M)) W hW hv q4
      have hmul := fun W hW va vb ha hb => mxmul_any va vb (invL (chL (r.take k) (genL k M))) (chL (r.take k) shards) W hW ha hb q5 q6
      rw [q2] at hinv
      rw [q3, ← q1] at hmul
      -- the reads that a store into the captured variable leaves
      have rS : Reads (w2.setCell ⟨w1.heap.size, 0, none⟩ (.slice (some ⟨gp, 0, none⟩) k pc)) vs (tx shards) := hS.below (bw2.trans (b3.mono b1.size))
      have rP : Reads (w2.setCell ⟨w1.heap.size, 0, none⟩ (.slice (some ⟨gp, 0, none⟩) k pc)) (.slice (some ⟨gp, 0, none⟩) k pc) (nv (r.take k)) := by
        have hold := (o1.after bwp)
        refine .inr ⟨gp, 0, pc, by rw [nv_length, List.length_take, Nat.min_eq_left hkl], Nat.lt_of_lt_of_le hgp2 (bwp.trans b3).size, fun i hi => ?_⟩
        rw [nv_length, List.length_take, Nat.min_eq_left hkl] at hi
        rw [b3.cell (p := ⟨gp, 0 + i, none⟩) hgp2, Nat.zero_add, hold.cell (by rw [nv_length]; omega), nv_getD r (by omega), nv_getD _ (by rw [List.length_take]; omega)]
        rw [List.getD_eq_getElem?_getD, List.getD_eq_getElem?_getD, List.getElem?_take, if_pos hi]
      have cP : (w2.setCell ⟨w1.heap.size, 0, none⟩ (.slice (some ⟨gp, 0, none⟩) k pc)).cell? ⟨w1.heap.size, 0, none⟩ = some (.slice (some ⟨gp, 0, none⟩) k pc) := World.cell?_setCell_same w2 _ _ cp2
      have hg3 : w1.heap.size < (w2.setCell ⟨w1.heap.size, 0, none⟩ (.slice (some ⟨gp, 0, none⟩) k pc)).heap.size := by simpa using hg2
      have bw3 : Below w.heap.size w (w2.setCell ⟨w1.heap.size, 0, none⟩ (.slice (some ⟨gp, 0, none⟩) k pc)) := bw2.trans (b3.mono b1.size)
      have hE4 : Hid (decE (M : Int) shards hv = 0) := hE3
      clear hE2 q1 q2 q3 hLz hLf hEz hz ha hT hT2
      refine hal.mono ?_
      rintro e wq ⟨rfl, rfl⟩
      go_wp2_with (fail)
      refine hgn.mono ?_
      rintro e w4 ⟨v4, rfl, o4, b4⟩
      have cP4 : w4.cell? ⟨w1.heap.size, 0, none⟩ = some (.slice (some ⟨gp, 0, none⟩) k pc) := by rw [b4.cell (p := ⟨w1.heap.size, 0, none⟩) hg3]; exact cP
      have rP4 := rP.below b4
      have rS4 := rS.below b4
      have t4 := t3.below b4 t3.two
      have hch4 := choose_any v4 (.slice (some ⟨gp, 0, none⟩) k pc) ⟨w1.heap.size, 0, none⟩ (genL k M) (r.take k) w4 cP4 (Nat.lt_of_lt_of_le hg3 b4.size) rP4 o4.reads hT2'.out hTl (by rw [genL_length]; omega)
      go_wp2_with (fail)
      refine hch4.mono ?_
      rintro e w5 ⟨v5, rfl, o5, b5⟩
      have t5 := t4.below b5 t4.two
      go_wp2_with (fail)
      refine (hinv _ t5 _ o5.reads).mono ?_
      rintro e w6 ⟨v6, rfl, o6, b6⟩
      have b56 := below_c b5 b6
      have cP6 : w6.cell? ⟨w1.heap.size, 0, none⟩ = some (.slice (some ⟨gp, 0, none⟩) k pc) := by rw [b56.cell (p := ⟨w1.heap.size, 0, none⟩) (Nat.lt_of_lt_of_le hg3 b4.size)]; exact cP4
      have t6 := t5.below b6 t5.two
      have hch6 := choose_any vs (.slice (some ⟨gp, 0, none⟩) k pc) ⟨w1.heap.size, 0, none⟩ shards (r.take k) w6 cP6 (Nat.lt_of_lt_of_le hg3 (Nat.le_trans b4.size b56.size)) (rP4.below b56) (rS4.below b56) hT'.out hTl (by omega)
      go_wp2_with (fail)
      refine hch6.mono ?_
      rintro e w7 ⟨v7, rfl, o7, b7⟩
      have t7 := t6.below b7 t6.two
      go_wp2_with (fail)
      refine (hmul _ t7 _ _ (o6.reads.below b7) o7.reads).mono ?_
      rintro e w8 ⟨v8, rfl, o8, b8⟩
      have bw7 : Below w.heap.size w w7 := below_c (below_c (below_c bw3 b4) b56) b7
      go_wp2_with (fail)
      go_ret2
      exact ⟨v8, by rw [hE4.out]; rfl, o8.mono bw7.size, below_c bw7 b8⟩
    · have e1 : decide (r.length < k) = true := by rw [decide_eq_true_eq]; omega
      rw [if_neg hkl] at hE2
      have hE3 := Lib.hid hE2
      have hL3 := Lib.hid (hLf.out ha hkl)
      clear hE2 hLz hLf hEz hz ha hkl
      refine hal.mono ?_
      rintro e wq ⟨rfl, rfl⟩
      go_wp2_with (fail)
      go_ret2
      exact ⟨.slice none 0 0, by rw [hE3.out]; rfl, by rw [hL3.out]; exact Own.nil _ _ _, bw2⟩
theorem decode_any (m : Int) (vs vh : Value) (shards : List ByteArray) (hv : List Bool) (w : World) (ht : Tabs w) (hS : Reads w vs (tx shards)) (hH : Reads w vh (bv hv)) (fs : Fits shards) (hn : shards.length ≤ 1000000) (hh : hv.length ≤ 140737488355328) :
    Calls Tryz.prog 70 #[.int .i64 m, vs, vh] w (GivesL w (decL m shards hv) (decE m shards hv)) := by
  by_cases h : decB m shards hv = true
  · obtain ⟨f1, _⟩ := decB_facts h
    obtain ⟨M, rfl⟩ := Int.eq_ofNat_of_zero_le (show 0 ≤ m by omega)
    exact decode_right M vs vh shards hv w ht hS hH fs h
  · exact decode_form m vs vh shards hv w hS hH hn hh (by simpa using h)
end Go.Proofs.YtjgafpkpoppcbaaGreatDoor
end
section
namespace Go.Proofs.YtjgafpkpoppcbaaGreatDoor
open Go.RowKit
def z1 : List ByteArray := [⟨#[0]⟩]
def t2 : List ByteArray := [⟨#[2]⟩]
def s3 : List ByteArray := [⟨#[]⟩, ⟨#[2]⟩, ⟨#[0]⟩]
end Go.Proofs.YtjgafpkpoppcbaaGreatDoor
end
section
namespace Go.Proofs.YtjgafpkpoppcbaaGreatDoor
open Go.RowKit
def parL (data : List ByteArray) (k m : Nat) : List ByteArray := mulL (mkM (cyEl m) m k) data
theorem alike_of_rect {l : List ByteArray} {n L : Nat} (h : Rect l n L) (h1 : 1 ≤ L) (h2 : L ≤ 4096) : alikeL l = true := alike_true fun i hi => by
  rw [h.l] at hi; rw [h.s i hi, h.s 0 (by omega)]; omega
theorem enc_good {data : List ByteArray} {k m L : Nat} (hd : Rect data k L) (k1 : 1 ≤ k) (k2 : k ≤ 8) (m1 : 1 ≤ m) (m2 : m ≤ 8) (L1 : 1 ≤ L) (L2 : L ≤ 4096) :
    encL data (m : Int) = parL data k m ∧ encE data (m : Int) = 0 ∧ Rect (parL data k m) m L := by
  have hb : encB data (m : Int) = true := by
    unfold encB; rw [hd.l, alike_of_rect hd L1 L2]; simp [fits8]; omega
  have ok := enc_mul hd k1 k2 m1 m2 L1 L2
  exact ⟨by rw [encL, if_pos hb, show ((m : Int)).toNat = m by omega, hd.l]; rfl, by rw [encE, if_pos hb], mulL_rect (mkM_rect (cyEl m) m k) hd k1 ok⟩
theorem idxTo_count (h : List Bool) : ∀ k, k ≤ h.length → (idxTo h k).length = (h.take k).count true
  | 0, _ => by simp [idxTo]
  | k + 1, hk => by
    have ih := idxTo_count h k (by omega)
    rw [idxTo_succ, List.take_succ_eq_append_getElem (by omega), List.count_append, ← ih, List.getD_eq_getElem?_getD, List.getElem?_eq_getElem (by omega)]
    simp only [Option.getD_some]
    cases h[k] <;> simp
theorem idxL_count (h : List Bool) : (idxL h).length = h.count true := by rw [idxL, idxTo_count h _ (Nat.le_refl _), List.take_length]
theorem idxL_true (h : List Bool) : ∀ x ∈ idxL h, h.getD x false = true := fun x hx => by
  simp [idxL, idxTo] at hx
  rw [List.getD_eq_getElem?_getD]; exact hx.2
structure Good (data : List ByteArray) (k m : Nat) (all : List ByteArray) (hv : List Bool) : Prop where
  la : all.length = k + m
  lh : hv.length = k + m
  h : ∀ i, i < k + m → hv.getD i false = true → all.getD i ⟨#[]⟩ = (wordL data k m).getD i ⟨#[]⟩
theorem Good.lt {data all : List ByteArray} {k m : Nat} {hv : List Bool} (g : Good data k m all hv) : ∀ x ∈ idxL hv, x < k + m := fun x hx => by
  have := idxL_lt hv x hx; rw [g.lh] at this; exact this
theorem Good.chosen {data all : List ByteArray} {k m : Nat} {hv : List Bool} (g : Good data k m all hv) : chL (idxL hv) all = chL (idxL hv) (wordL data k m) :=
  List.map_congr_left fun x hx => g.h x (g.lt x hx) (idxL_true hv x hx)
theorem Good.dec {data all : List ByteArray} {k m L : Nat} {hv : List Bool} (g : Good data k m all hv) (hd : Rect data k L) (k1 : 1 ≤ k) (k2 : k ≤ 8) (m1 : 1 ≤ m) (m2 : m ≤ 8) (L1 : 1 ≤ L) (L2 : L ≤ 4096) :
    decK (m : Int) all = k ∧ decO (m : Int) all hv = true := by
  have hw := word_rect hd k1 k2 m1 m2 L1 L2
  have hB : decB (m : Int) all hv = true := by
    unfold decB; rw [g.la, g.lh]; simp [fits8]; omega
  exact ⟨by unfold decK; rw [g.la]; omega, by rw [decO, hB, g.chosen, alike_of_rect (chL_rect hw g.lt rfl) L1 L2]; rfl⟩
theorem decode_core {data all : List ByteArray} {k m L : Nat} {hv : List Bool} (la : all.length = k + m) (lh : hv.length = k + m) (hal : alikeL (chL (idxL hv) all) = true)
    (hx : ∀ x ∈ (idxL hv).take k, x < k + m → all.getD x ⟨#[]⟩ = (wordL data k m).getD x ⟨#[]⟩) (hd : Rect data k L) (k1 : 1 ≤ k) (k2 : k ≤ 8) (m1 : 1 ≤ m) (m2 : m ≤ 8) (L1 : 1 ≤ L) (L2 : L ≤ 4096) (hc : k ≤ hv.count true) :
    decL (m : Int) all hv = data ∧ decE (m : Int) all hv = 0 := by
  have hK : decK (m : Int) all = k := by unfold decK; rw [la]; omega
  have hB : decB (m : Int) all hv = true := by
    unfold decB; rw [la, lh]; simp [fits8]; omega
  have hO : decO (m : Int) all hv = true := by rw [decO, hB, hal]; rfl
  rw [← idxL_count] at hc
  have hw := word_rect hd k1 k2 m1 m2 L1 L2
  have hI : decI (m : Int) all hv = (idxL hv).take k := by rw [decI, hK]
  have hl : ((idxL hv).take k).length = k := by rw [List.length_take]; omega
  have hn : ((idxL hv).take k).Nodup := (idxL_nodup hv).sublist (List.take_sublist _ _)
  have hr : ∀ x ∈ (idxL hv).take k, x < k + m := fun x hx => by have := idxL_lt hv x (List.mem_of_mem_take hx); rw [lh] at this; exact this
  have hch : chL ((idxL hv).take k) all = chL ((idxL hv).take k) (wordL data k m) := List.map_congr_left fun x hm => hx x hm (hr x hm)
  refine ⟨?_, by rw [decE, hO, hK, if_pos rfl, if_pos hc]⟩
  rw [decL, hO, hK, hI, show ((m : Int)).toNat = m by omega, decide_eq_true hc, show (true && true) = true from rfl, if_pos rfl, hch]
  exact (decode_back k1 k2 m2 hl hn hr hd (chL_rect hw hr hl) L1 L2 fun a j ha hj => by
    rw [← word_el hd k1 k2 m1 m2 L1 L2 (hr _ (getD_mem (by omega))) hj]
    apply Mx.F.ext
    rw [el_v, el_v, chL_get _ _ (by omega)]).1
theorem decode_good {data all : List ByteArray} {k m L : Nat} {hv : List Bool} (g : Good data k m all hv) (hd : Rect data k L) (k1 : 1 ≤ k) (k2 : k ≤ 8) (m1 : 1 ≤ m) (m2 : m ≤ 8) (L1 : 1 ≤ L) (L2 : L ≤ 4096) (hc : k ≤ hv.count true) :
    decL (m : Int) all hv = data ∧ decE (m : Int) all hv = 0 := by
  have hw := word_rect hd k1 k2 m1 m2 L1 L2
  exact decode_core g.la g.lh (by rw [g.chosen]; exact alike_of_rect (chL_rect hw g.lt rfl) L1 L2) (fun x hx hlt => g.h x hlt (idxL_true hv x (List.mem_of_mem_take hx))) hd k1 k2 m1 m2 L1 L2 hc
theorem decode_few {data all : List ByteArray} {k m L : Nat} {hv : List Bool} (g : Good data k m all hv) (hd : Rect data k L) (k1 : 1 ≤ k) (k2 : k ≤ 8) (m1 : 1 ≤ m) (m2 : m ≤ 8) (L1 : 1 ≤ L) (L2 : L ≤ 4096) (hc : hv.count true < k) :
    decL (m : Int) all hv = [] ∧ decE (m : Int) all hv = 31 := by
  obtain ⟨hK, hO⟩ := g.dec hd k1 k2 m1 m2 L1 L2
  rw [← idxL_count] at hc
  exact ⟨by rw [decL, hO, hK, decide_eq_false (show ¬ k ≤ (idxL hv).length by omega)]; rfl, by rw [decE, hO, hK, if_pos rfl, if_neg (by omega)]⟩
theorem tx_app (a b : List ByteArray) : tx (a ++ b) = tx a ++ tx b := by simp [tx]
theorem tx_each (l : List ByteArray) : ∀ x ∈ tx l, x.oneCell' = true := fun x hx => by
  simp only [tx, List.mem_map] at hx
  obtain ⟨_, _, rfl⟩ := hx; rfl
theorem copy_tx {w : World} {v : Value} {a : List ByteArray} (h : Reads w v (tx a)) (hn : a.length ≤ 1000000) :
    ∃ v' w', (Builtin.append_ #[39, 39] 39 #[.slice none 0 0, v]).run Tryz.prog w = .ok v' w' ∧ Own w' w.heap.size 9 v' (tx a) ∧ Below w.heap.size w w' := by
  obtain ⟨i0, hi, hz0, hz1, hz2⟩ := info_parts Tryz.infoS
  exact Reads.copy_run (P := Tryz.prog) (T := 39) Tryz.underlying39 hi hz0 hz1 hz2 rfl h (tx_each a) (by simp only [tx, List.length_map]; omega) (by simp only [tx, List.length_map]; omega)
theorem push_tx {w : World} {B : Nat} {v u : Value} {a b : List ByteArray} (h : Own w B 9 v (tx a)) (hu : Reads w u (tx b)) (hB : B ≤ w.heap.size) (hn : a.length + b.length ≤ 1000000) :
    ∃ v' w', (Builtin.append_ #[39, 39] 39 #[v, u]).run Tryz.prog w = .ok v' w' ∧ Own w' B 9 v' (tx (a ++ b)) ∧ Below B w w' := by
  obtain ⟨i0, hi, hz0, hz1, hz2⟩ := info_parts Tryz.infoS
  obtain ⟨v', w', h1, h2, h3, _⟩ := Own.pushAll (P := Tryz.prog) (T := 39) Tryz.underlying39 hi hz0 hz1 hz2 rfl h hu (tx_each b) hB (by simp only [tx, List.length_map]; omega) (by simp only [tx, List.length_map]; omega)
  exact ⟨v', w', h1, by rw [tx_app]; exact h2, h3⟩
theorem word_run {w : World} {v u : Value} {a b : List ByteArray} (h : Reads w v (tx a)) (hu : Reads w u (tx b)) (hn : a.length + b.length ≤ 1000000) :
    ∃ v1 w1 v2 w2, (Builtin.append_ #[39, 39] 39 #[.slice none 0 0, v]).run Tryz.prog w = .ok v1 w1 ∧ (Builtin.append_ #[39, 39] 39 #[v1, u]).run Tryz.prog w1 = .ok v2 w2 ∧ Own w2 w.heap.size 9 v2 (tx (a ++ b)) ∧ Below w.heap.size w w2 := by
  obtain ⟨v1, w1, h1, h2, h3⟩ := copy_tx h (by omega)
  obtain ⟨v2, w2, k1, k2, k3⟩ := push_tx h2 (hu.below h3) h3.size hn
  exact ⟨v1, w1, v2, w2, h1, k1, k2, h3.trans k3⟩
end Go.Proofs.YtjgafpkpoppcbaaGreatDoor
end
section
namespace Go.Proofs.YtjgafpkpoppcbaaGreatDoor
open Go.RowKit
set_option maxRecDepth 100000 in
set_option maxHeartbeats 2000000 in
theorem rshards_any (v : Value) (l : List ByteArray) (w : World) (h : Reads w v (tx l)) (hF : Fits l) :
    Calls Tryz.prog 90 #[v] w (Says w (.bool (alikeL l))) := by
  have hn := hF.n
  rcases h.srow with ⟨⟨a0, c0, rfl⟩, rfl⟩ | ⟨b, off, cap, rfl, hS⟩
  · go_enter Tryz.func90, Tryz.ntmps90
    go_wp2
    go_loopw [3] (fun i wr => i = .int .i64 0 ∧ w = wr) (fun _ _ => 0)
    case atStart => exact ⟨rfl, rfl⟩
    case round =>
      obtain ⟨rfl, rfl⟩ := hrel
      go_wp2
      go_ret
      exact ⟨rfl, Below.refl _ _⟩
  · go_enter Tryz.func90, Tryz.ntmps90
    go_wp2
    go_loopw [3] (fun i wr => ∃ k : Nat, k ≤ l.length ∧ i = .int .i64 (k : Int) ∧ Below w.heap.size w wr ∧ Hid (∀ j, j < k → (l.getD j ⟨#[]⟩).size = (l.getD 0 ⟨#[]⟩).size ∧ 1 ≤ (l.getD j ⟨#[]⟩).size ∧ (l.getD j ⟨#[]⟩).size ≤ 4096)) (fun i _ => l.length - (RowKit.intOf i).toNat)
    case atStart => exact ⟨0, by omega, rfl, Below.refl _ _, Lib.hid (fun j hj => by omega)⟩
    case round =>
      obtain ⟨k, hk, rfl, hbel, hj⟩ := hrel
      by_cases hlt : k < l.length
      · have hc := (hS.below hbel).cell k hlt
        have hc0 := (hS.below hbel).cell 0 (by omega)
        rw [Nat.add_zero] at hc0
        have hmk := hF.m k hlt
        have hm0 := hF.m 0 (by omega)
        have b1 : (k : Int) < (l.length : Int) := by omega
        by_cases he : (l.getD k ⟨#[]⟩).size = (l.getD 0 ⟨#[]⟩).size
        · have e3 : ((((l.getD k ⟨#[]⟩).size : Nat) : Int) != (((l.getD 0 ⟨#[]⟩).size : Nat) : Int)) = false := by rw [he]; exact bne_self_eq_false _
          by_cases h1 : 1 ≤ (l.getD k ⟨#[]⟩).size
          · have e4 : decide ((((l.getD k ⟨#[]⟩).size : Nat) : Int) < 1) = false := by rw [decide_eq_false_iff_not]; omega
            by_cases h2 : (l.getD k ⟨#[]⟩).size ≤ 4096
            · have e5 : decide (4096 < (((l.getD k ⟨#[]⟩).size : Nat) : Int)) = false := by rw [decide_eq_false_iff_not]; omega
              have hj' : Hid (∀ j, j < k + 1 → (l.getD j ⟨#[]⟩).size = (l.getD 0 ⟨#[]⟩).size ∧ 1 ≤ (l.getD j ⟨#[]⟩).size ∧ (l.getD j ⟨#[]⟩).size ≤ 4096) := Lib.hid (fun j hjk => by
                by_cases e : j = k
                · subst e; exact ⟨he, h1, h2⟩
                · exact hj.out j (by omega))
              obtain ⟨rk, hrk⟩ : ∃ r, l.getD k ⟨#[]⟩ = r := ⟨_, rfl⟩
              obtain ⟨r0, hr0⟩ : ∃ r, l.getD 0 ⟨#[]⟩ = r := ⟨_, rfl⟩
              rw [hrk] at hc hmk e3 e4 e5
              rw [hr0] at hc0 hm0 e3
              clear hj hrk hr0 he h1 h2
              go_wp2
              go_quiet (fail)
              go_wp2
              go_roundw
              case rel => exact ⟨k + 1, by omega, by go_num, belowN hbel _, hj'⟩
              case measure => simp [RowKit.intOf]; omega
            · have e5 : decide (4096 < (((l.getD k ⟨#[]⟩).size : Nat) : Int)) = true := by rw [decide_eq_true_eq]; omega
              have hz : Hid (alikeL l = false) := Lib.hid (alike_false hlt (by omega))
              obtain ⟨rk, hrk⟩ : ∃ r, l.getD k ⟨#[]⟩ = r := ⟨_, rfl⟩
              obtain ⟨r0, hr0⟩ : ∃ r, l.getD 0 ⟨#[]⟩ = r := ⟨_, rfl⟩
              rw [hrk] at hc hmk e3 e4 e5
              rw [hr0] at hc0 hm0 e3
              clear hj hrk hr0 he h1 h2
              go_wp2
              go_quiet (fail)
              go_wp2
              go_ret
              exact ⟨by rw [hz.out]; rfl, belowN hbel _⟩
          · have e4 : decide ((((l.getD k ⟨#[]⟩).size : Nat) : Int) < 1) = true := by rw [decide_eq_true_eq]; omega
            have hz : Hid (alikeL l = false) := Lib.hid (alike_false hlt (by omega))
            obtain ⟨rk, hrk⟩ : ∃ r, l.getD k ⟨#[]⟩ = r := ⟨_, rfl⟩
            obtain ⟨r0, hr0⟩ : ∃ r, l.getD 0 ⟨#[]⟩ = r := ⟨_, rfl⟩
            rw [hrk] at hc hmk e3 e4
            rw [hr0] at hc0 hm0 e3
            clear hj hrk hr0 he h1
            go_wp2
            go_quiet (fail)
            go_wp2
            go_ret
            exact ⟨by rw [hz.out]; rfl, belowN hbel _⟩
        · have e3 : ((((l.getD k ⟨#[]⟩).size : Nat) : Int) != (((l.getD 0 ⟨#[]⟩).size : Nat) : Int)) = true := by rw [bne_iff_ne]; omega
          have hz : Hid (alikeL l = false) := Lib.hid (alike_false hlt (by omega))
          obtain ⟨rk, hrk⟩ : ∃ r, l.getD k ⟨#[]⟩ = r := ⟨_, rfl⟩
          obtain ⟨r0, hr0⟩ : ∃ r, l.getD 0 ⟨#[]⟩ = r := ⟨_, rfl⟩
          rw [hrk] at hc hmk e3
          rw [hr0] at hc0 hm0 e3
          clear hj hrk hr0 he
          go_wp2
          go_quiet (fail)
          go_wp2
          go_ret
          exact ⟨by rw [hz.out]; rfl, belowN hbel _⟩
      · have e : k = l.length := by omega
        subst e
        have hz : Hid (alikeL l = true) := Lib.hid (alike_true hj.out)
        go_wp2
        go_ret
        exact ⟨by rw [hz.out]; rfl, hbel⟩
theorem fits8_iff (n : Int) : fits8 n = true ↔ 1 ≤ n ∧ n ≤ 8 := by simp [fits8]
theorem fits8_not {n : Int} (h : n < 1 ∨ 8 < n) : fits8 n = false := by simp [fits8]; omega
theorem cy_nat {k m : Nat} (k1 : 1 ≤ k) (k2 : k ≤ 16) (m1 : 1 ≤ m) (m2 : m ≤ 16) : cyL (k : Int) (m : Int) = mkM (cyEl m) m k ∧ cyE (k : Int) (m : Int) = 0 := by
  have h1 : fitsB (k : Int) = true := by simp [fitsB]; omega
  have h2 : fitsB (m : Int) = true := by simp [fitsB]; omega
  rw [cyL, cyE, h1, h2, show ((k : Int)).toNat = k by omega, show ((m : Int)).toNat = m by omega]
  exact ⟨rfl, rfl⟩
set_option maxRecDepth 100000 in
set_option maxHeartbeats 4000000 in
theorem rencode_any (v : Value) (data : List ByteArray) (m : Int) (w : World) (hD : Reads w v (tx data)) (hF : Fits data) :
    Calls Tryz.prog 49 #[v, .int .i64 m] w (GivesL w (encL data m) (encE data m)) := by
  have hn := hF.n
  have ld := fun W => hD.len_run (P := Tryz.prog) Tryz.underlying39 3 W
  rw [List.length_map] at ld
  have cs := fun W (hW : Below w.heap.size w W) => rshards_any v data W (hD.below hW) hF
  by_cases c0 : (data.length : Int) < 1
  · have t0 : decide ((data.length : Int) < 1) = true := by rw [decide_eq_true_eq]; omega
    have hz : Hid (encB data m = false) := Lib.hid (by
      unfold encB
      rw [fits8_not (n := (data.length : Int)) (by omega)]
      rfl)
    clear c0
    go_enter Tryz.func49, Tryz.ntmps49
    go_wp2_with (fail)
    go_ret2
    exact enc_bad w data m hz _ (Below.refl _ _)
  · skip
    by_cases c1 : 8 < (data.length : Int)
    · have t0 : decide ((data.length : Int) < 1) = false := by rw [decide_eq_false_iff_not]; omega
      have t1 : decide (8 < (data.length : Int)) = true := by rw [decide_eq_true_eq]; omega
      have hz : Hid (encB data m = false) := Lib.hid (by
        unfold encB
        rw [fits8_not (n := (data.length : Int)) (by omega)]
        rfl)
      clear c0 c1
      go_enter Tryz.func49, Tryz.ntmps49
      go_wp2_with (fail)
      go_ret2
      exact enc_bad w data m hz _ (Below.refl _ _)
    · skip
      by_cases c2 : m < 1
      · have t0 : decide ((data.length : Int) < 1) = false := by rw [decide_eq_false_iff_not]; omega
        have t1 : decide (8 < (data.length : Int)) = false := by rw [decide_eq_false_iff_not]; omega
        have t2 : decide (m < 1) = true := by rw [decide_eq_true_eq]; omega
        have hz : Hid (encB data m = false) := Lib.hid (by
          unfold encB
          rw [fits8_not (n := m) (by omega)]
          rw [Bool.and_false]; rfl)
        clear c0 c1 c2
        go_enter Tryz.func49, Tryz.ntmps49
        go_wp2_with (fail)
        go_ret2
        exact enc_bad w data m hz _ (Below.refl _ _)
      · skip
        by_cases c3 : 8 < m
        · have t0 : decide ((data.length : Int) < 1) = false := by rw [decide_eq_false_iff_not]; omega
          have t1 : decide (8 < (data.length : Int)) = false := by rw [decide_eq_false_iff_not]; omega
          have t2 : decide (m < 1) = false := by rw [decide_eq_false_iff_not]; omega
          have t3 : decide (8 < m) = true := by rw [decide_eq_true_eq]; omega
          have hz : Hid (encB data m = false) := Lib.hid (by
            unfold encB
            rw [fits8_not (n := m) (by omega)]
            rw [Bool.and_false]; rfl)
          clear c0 c1 c2 c3
          go_enter Tryz.func49, Tryz.ntmps49
          go_wp2_with (fail)
          go_ret2
          exact enc_bad w data m hz _ (Below.refl _ _)
        · skip
          have e0 : decide ((data.length : Int) < 1) = false := by rw [decide_eq_false_iff_not]; omega
          have e1 : decide (8 < (data.length : Int)) = false := by rw [decide_eq_false_iff_not]; omega
          have e2 : decide (m < 1) = false := by rw [decide_eq_false_iff_not]; omega
          have e3 : decide (8 < m) = false := by rw [decide_eq_false_iff_not]; omega
          obtain ⟨M, rfl⟩ := Int.eq_ofNat_of_zero_le (show 0 ≤ m by omega)
          cases ha : alikeL data with
          | false =>
            have hz : Hid (encB data (M : Int) = false) := Lib.hid (by unfold encB; rw [ha, Bool.and_false])
            rw [ha] at cs
            clear c0 c1 c2 c3 ha
            go_enter Tryz.func49, Tryz.ntmps49
            go_wp2_with (fail)
            refine (cs _ (Below.refl _ _)).mono ?_
            rintro e w1 ⟨rfl, b1⟩
            go_wp2_with (fail)
            go_ret2
            exact enc_bad w data M hz _ b1
          | true =>
            rw [ha] at cs
            have hal := alike_rect ha
            have hf := alike_facts ha 0 (by omega)
            obtain ⟨g1, g2, rP⟩ := enc_good hal (by omega) (by omega) (show 1 ≤ M by omega) (by omega) hf.2.1 hf.2.2
            have hz1 := Lib.hid g1
            have hz2 := Lib.hid g2
            obtain ⟨y1, y2⟩ := cy_nat (k := data.length) (m := M) (by omega) (by omega) (by omega) (by omega)
            have cc := fun W => rcauchy_any (data.length : Int) (M : Int) W
            rw [y1, y2] at cc
            have fc := (mkM_rect (cyEl M) M data.length).fits (by omega) (by omega)
            have cm := fun W vc hc hv => rmxmul_any vc v (mkM (cyEl M) M data.length) data W hc hv fc hF
            rw [show mulL (mkM (cyEl M) M data.length) data = parL data data.length M from rfl] at cm
            generalize mulE (mkM (cyEl M) M data.length) data = me at *
            generalize mkM (cyEl M) M data.length = cy at *
            generalize parL data data.length M = P at *
            clear c0 c1 c2 c3 ha hal hf g1 g2 y1 y2 rP
            go_enter Tryz.func49, Tryz.ntmps49
            go_wp2_with (fail)
            refine (cs _ (Below.refl _ _)).mono ?_
            rintro e w1 ⟨rfl, b1⟩
            go_wp2_with (fail)
            refine (cc _).mono ?_
            rintro e w2 ⟨v2, rfl, o2, b2⟩
            go_wp2_with (fail)
            refine (cm _ _ o2.reads (hD.below (below_c b1 b2))).mono ?_
            rintro e w3 ⟨v3, rfl, o3, b3⟩
            go_wp2_with (fail)
            go_ret2
            exact ⟨v3, by rw [hz2.out]; rfl, by rw [hz1.out]; exact o3.mono (below_c b1 b2).size, below_c (below_c b1 b2) b3⟩
end Go.Proofs.YtjgafpkpoppcbaaGreatDoor
end
section
namespace Go.Proofs.YtjgafpkpoppcbaaGreatDoor
open Go.RowKit
theorem Own.lit (w : World) (E : TypeId) (xs : List Value) (hn : xs.length ≤ 1000) : Own (w.alloc (.cells xs.toArray E)) w.heap.size E (.slice (some ⟨w.heap.size, 0, none⟩) xs.length xs.length) xs :=
  ⟨World.ownsRow_lit (e := E) (size := 1) w xs.toArray xs.length (Nat.le_refl _) (by unfold maxLen; omega) (by simp)⟩
end Go.Proofs.YtjgafpkpoppcbaaGreatDoor
end
section
namespace Go.Proofs.YtjgafpkpoppcbaaGreatDoor
open Go.RowKit
set_option maxRecDepth 100000 in
set_option maxHeartbeats 2000000 in
theorem rdecode_form (m : Int) (vs vh : Value) (shards : List ByteArray) (hv : List Bool) (w : World) (hS : Reads w vs (tx shards)) (hH : Reads w vh (bv hv)) (hn : shards.length ≤ 1000000) (hh : hv.length ≤ 140737488355328) (m1 : -9223372036854775808 ≤ m) (m2 : m ≤ 9223372036854775807) (h : decB m shards hv = false) :
    Calls Tryz.prog 73 #[.int .i64 m, vs, vh] w (GivesL w (decL m shards hv) (decE m shards hv)) := by
  have hz : Hid (decO m shards hv = false) := Lib.hid (by rw [decO, h]; rfl)
  have h' := Lib.hid h
  clear h
  have ls := fun W => hS.len_run (P := Tryz.prog) Tryz.underlying39 3 W
  have lh := fun W => hH.len_run (P := Tryz.prog) Tryz.underlying89 3 W
  rw [List.length_map] at ls
  rw [bv_length] at lh
  by_cases c0 : m < 1
  · have t0 : decide (m < 1) = true := by rw [decide_eq_true_eq]; omega
    clear c0
    go_enter Tryz.func73, Tryz.ntmps73
    go_wp2_with (fail)
    go_ret2
    exact dec_bad w m shards hv hz _ (Below.refl _ _)
  · skip
    by_cases c1 : 8 < m
    · have t0 : decide (m < 1) = false := by rw [decide_eq_false_iff_not]; omega
      have t1 : decide (8 < m) = true := by rw [decide_eq_true_eq]; omega
      clear c0 c1
      go_enter Tryz.func73, Tryz.ntmps73
      go_wp2_with (fail)
      go_ret2
      exact dec_bad w m shards hv hz _ (Below.refl _ _)
    · skip
      by_cases c2 : (shards.length : Int) ≤ m
      · have t0 : decide (m < 1) = false := by rw [decide_eq_false_iff_not]; omega
        have t1 : decide (8 < m) = false := by rw [decide_eq_false_iff_not]; omega
        have t2 : decide ((shards.length : Int) ≤ m) = true := by rw [decide_eq_true_eq]; omega
        clear c0 c1 c2
        go_enter Tryz.func73, Tryz.ntmps73
        go_wp2_with (fail)
        go_ret2
        exact dec_bad w m shards hv hz _ (Below.refl _ _)
      · skip
        by_cases c3 : m + 8 < (shards.length : Int)
        · have t0 : decide (m < 1) = false := by rw [decide_eq_false_iff_not]; omega
          have t1 : decide (8 < m) = false := by rw [decide_eq_false_iff_not]; omega
          have t2 : decide ((shards.length : Int) ≤ m) = false := by rw [decide_eq_false_iff_not]; omega
          have t3 : decide (m + 8 < (shards.length : Int)) = true := by rw [decide_eq_true_eq]; omega
          clear c3
          go_enter Tryz.func73, Tryz.ntmps73
          go_wp2_with (fail)
          go_ret2
          exact dec_bad w m shards hv hz _ (Below.refl _ _)
        · skip
          have t0 : decide (m < 1) = false := by rw [decide_eq_false_iff_not]; omega
          have t1 : decide (8 < m) = false := by rw [decide_eq_false_iff_not]; omega
          have t2 : decide ((shards.length : Int) ≤ m) = false := by rw [decide_eq_false_iff_not]; omega
          have t3 : decide (m + 8 < (shards.length : Int)) = false := by rw [decide_eq_false_iff_not]; omega
          have e3 : (((hv.length : Nat) : Int) != ((shards.length : Nat) : Int)) = true := by
            have h := h'.out
            rw [decB, (fits8_iff m).2 (by omega), (fits8_iff ((shards.length : Int) - m)).2 (by omega)] at h
            simp at h
            rw [bne_iff_ne]; omega
          go_enter Tryz.func73, Tryz.ntmps73
          go_wp2_with (fail)
          go_ret2
          exact dec_bad w m shards hv hz _ (Below.refl _ _)
theorem idxTo_chL (hv : List Bool) (rows : List ByteArray) (q : Nat) : chL (idxTo hv (q + 1)) rows = if hv.getD q false then chL (idxTo hv q) rows ++ [rows.getD q ⟨#[]⟩] else chL (idxTo hv q) rows := by
  rw [idxTo_succ]
  split
  · simp [chL]
  · rfl
theorem chL_take (r : List Nat) (rows : List ByteArray) (k : Nat) : tx (chL (r.take k) rows) = (tx (chL r rows)).take k := by simp [chL, tx]
set_option maxRecDepth 100000 in
set_option maxHeartbeats 4000000 in
theorem rdecode_right (M : Nat) (vs vh : Value) (shards : List ByteArray) (hv : List Bool) (w : World) (hS : Reads w vs (tx shards)) (hH : Reads w vh (bv hv)) (fs : Fits shards) (h : decB (M : Int) shards hv = true) :
    Calls Tryz.prog 73 #[.int .i64 (M : Int), vs, vh] w (GivesL w (decL (M : Int) shards hv) (decE (M : Int) shards hv)) := by
  obtain ⟨i0, hi, hz0, hz1, hz2⟩ := info_parts Tryz.infoS
  obtain ⟨f1, f2, f3, f4, f5, f6⟩ := decB_facts h
  rw [show ((M : Int)).toNat = M by omega] at f6
  have ls := fun W => hS.len_run (P := Tryz.prog) Tryz.underlying39 3 W
  have lh := fun W => hH.len_run (P := Tryz.prog) Tryz.underlying89 3 W
  rw [List.length_map] at ls
  rw [bv_length, f5] at lh
  have hidx := idxL_lt hv
  have hlen : (idxL hv).length ≤ hv.length := idxTo_len hv hv.length
  have hO : decO (M : Int) shards hv = alikeL (chL (idxL hv) shards) := by rw [decO, h]; rfl
  obtain ⟨k, hk⟩ : ∃ k, decK (M : Int) shards = k := ⟨_, rfl⟩
  rw [hk] at f3 f4 f6
  have hK : (shards.length : Int) - (M : Int) = (k : Int) := by omega
  have hz : Hid (decO (M : Int) shards hv = alikeL (chL (idxL hv) shards)) := Lib.hid hO
  have hLz : Hid (alikeL (chL (idxL hv) shards) = true → k ≤ (idxL hv).length → decL (M : Int) shards hv = mulL (invL (chL ((idxL hv).take k) (genL k M))) (chL ((idxL hv).take k) shards) ∧ Fits (chL ((idxL hv).take k) (genL k M)) ∧ Fits (invL (chL ((idxL hv).take k) (genL k M))) ∧ Fits (chL ((idxL hv).take k) shards)) := Lib.hid (fun ha hkl => by
    have hO2 : decO (M : Int) shards hv = true := by rw [hO]; exact ha
    obtain ⟨g1, g2, g3, L, g4, g5, g6⟩ := dec_rect hO2 (by omega)
    have hI : decI (M : Int) shards hv = (idxL hv).take k := by rw [decI, hk]
    rw [hI, hk] at g1 g6
    rw [hI] at g2 g3
    rw [hk, show ((M : Int)).toNat = M by omega] at g3
    have hG := chL_rect (genL_rect k M) g3 g1
    have e0 := gen_inv (m := M) (by omega) (by omega) (by omega) g1 g2 g3
    rcases inv_cases hG (by omega) (by omega) with ⟨_, rI, _⟩ | ⟨e, _⟩
    · refine ⟨?_, hG.fits (by omega) (by omega), rI.fits (by omega) (by omega), g6.fits (by omega) (by omega)⟩
      rw [decL, hO2, hI, hk, show ((M : Int)).toNat = M by omega, decide_eq_true (show k ≤ (idxL hv).length from hkl)]; rfl
    · rw [e0] at e; cases e)
  have hEz : Hid (decE (M : Int) shards hv = if alikeL (chL (idxL hv) shards) then (if k ≤ (idxL hv).length then 0 else 31) else 30) := Lib.hid (by rw [decE, hO, hk])
  have hLf : Hid (alikeL (chL (idxL hv) shards) = true → ¬ k ≤ (idxL hv).length → decL (M : Int) shards hv = []) := Lib.hid (fun ha hkl => by
    rw [decL, hO, ha, hk, decide_eq_false hkl]; rfl)
  have fch : Hid (Fits (chL (idxL hv) shards)) := Lib.hid ⟨by rw [chL_length]; omega, fun i hi => by
    rw [chL_length] at hi
    rw [chL_get _ _ hi]
    exact fs.m _ (by have := getD_lt hidx hi; omega)⟩
  obtain ⟨n, hn⟩ : ∃ n, shards.length = n := ⟨_, rfl⟩
  have hhn : hv.length = n := by omega
  have hM8 : M ≤ 8 := by omega
  have hM1 : 1 ≤ M := by omega
  have hs16 : n ≤ 16 := by omega
  obtain ⟨hid1, hid2⟩ := idL_nat f3 (show k ≤ 16 by omega)
  have ci := fun W => ridentity_any (k : Int) W (by omega)
  rw [hid1, hid2] at ci
  obtain ⟨y1, y2⟩ := cy_nat (k := k) (m := M) (by omega) (by omega) (by omega) (by omega)
  have cc := fun W => rcauchy_any (k : Int) (M : Int) W
  rw [y1, y2] at cc
  have lw : (genL k M).length = n := by rw [genL_length]; omega
  have hall : idxL hv = idxTo hv n := by rw [idxL, hhn]
  have hG0 : mkM idEl k k ++ mkM (cyEl M) M k = genL k M := rfl
  have la := mkM_length idEl k k
  have lb := mkM_length (cyEl M) M k
  have hlab : (mkM idEl k k).length + (mkM (cyEl M) M k).length ≤ 100 := by omega
  have t0 : decide ((M : Int) < 1) = false := by rw [decide_eq_false_iff_not]; omega
  have t1 : decide (8 < (M : Int)) = false := by rw [decide_eq_false_iff_not]; omega
  have t2 : decide ((n : Int) ≤ (M : Int)) = false := by rw [decide_eq_false_iff_not]; omega
  have t2' : decide (n ≤ M) = false := by rw [decide_eq_false_iff_not]; omega
  have t3 : decide ((M : Int) + 8 < (n : Int)) = false := by rw [decide_eq_false_iff_not]; omega
  have t3' : decide (M + 8 < n) = false := by rw [decide_eq_false_iff_not]; omega
  have hnH := Lib.hid hn
  have hhnH := Lib.hid hhn
  have hallH := Lib.hid hall
  have lwH := Lib.hid lw
  have hlabH := Lib.hid hlab
  rw [hn] at ls lh hK
  have hG0' := Lib.hid hG0
  generalize mkM idEl k k = ma at *
  generalize mkM (cyEl M) M k = mb at *
  generalize genL k M = G at *
  clear h hO hk hidx hlen f1 f2 f5 f6 hn hhn hall lw hG0 la lb hlab hid1 hid2 y1 y2
  go_enter Tryz.func73, Tryz.ntmps73
  go_wp2_with (fail)
  refine (ci _).mono ?_
  rintro e w1 ⟨v1, rfl, o1, b1⟩
  go_wp2_with (fail)
  refine (cc _).mono ?_
  rintro e w2 ⟨v2, rfl, o2, b2⟩
  obtain ⟨x1, wa, x2, w3, ha1, ha2, oW, bW⟩ := word_run (o1.reads.below b2) o2.reads (by have := hlabH.out; omega)
  rw [hG0'.out] at oW
  go_wp2_with (first | (at_builtin; refine wpList_append_run ha1 _ _ rfl rfl rfl rfl rfl ?_) | (at_builtin; refine wpList_append_run ha2 _ _ rfl rfl rfl rfl rfl ?_))
  have B3 : Below w.heap.size w w3 := below_c (below_c b1 b2) bW
  have S3 := hS.below B3
  have H3 := hH.below B3
  have W3 := oW.reads
  go_loopw [14, 15, 16] (fun u v i wr => ∃ q : Nat, q ≤ n ∧ i = .int .i64 (q : Int) ∧ Own wr w3.heap.size 9 u (tx (chL (idxTo hv q) shards)) ∧ Own wr w3.heap.size 9 v (tx (chL (idxTo hv q) G)) ∧ Apart u v ∧ Below w3.heap.size w3 wr) (fun _ _ i _ => n - (RowKit.intOf i).toNat)
  case atStart => exact ⟨0, by omega, rfl, Own.nil _ _ _, Own.nil _ _ _, Apart.nil _, Below.refl _ _⟩
  case round =>
    obtain ⟨q, hq, rfl, p1, p2, ap, hbel⟩ := hrel
    obtain ⟨u, rfl⟩ : ∃ v, v = u14 := ⟨_, rfl⟩
    obtain ⟨v, rfl⟩ : ∃ v, v = u15 := ⟨_, rfl⟩
    have hle := idxTo_len hv q
    by_cases hlt : q < n
    · have b1 : (q : Int) < (n : Int) := by omega
      rcases H3.below hbel with ⟨_, e⟩ | ⟨b, off, cap, rfl, hb, hc⟩
      · have := congrArg List.length e; rw [bv_length, List.length_nil, hhnH.out] at this; omega
      have hck := hc q (by rw [bv_length, hhnH.out]; exact hlt)
      rw [bv_getD hv (by rw [hhnH.out]; exact hlt)] at hck
      have b2 : (q : Int) < ((bv hv).length : Int) := by rw [bv_length, hhnH.out]; exact b1
      have hs1 := idxTo_chL hv shards q
      have hs2 := idxTo_chL hv G q
      cases hb1 : hv.getD q false with
      | true =>
        rw [hb1] at hs1 hs2 hck
        rw [if_pos rfl] at hs1 hs2
        have h1' := Lib.hid hs1
        have h2' := Lib.hid hs2
        have hz := hbel.size
        obtain ⟨vA, wA, hapA, oA, bA, kA, cA⟩ := Own.pushA (P := Tryz.prog) (T := 39) Tryz.underlying39 hi hz0 hz1 hz2 rfl p1 (.string (shards.getD q ⟨#[]⟩)) rfl hz (by rw [List.length_map, chL_length]; omega) (by rw [List.length_map, chL_length]; omega)
        have p2a := p2.kept kA ap.symm
        have apA := (ap.symm.push p2 cA).symm
        have hzA := bA.size
        obtain ⟨vB, wB, hapB, oB, bB, kB, cB⟩ := Own.pushA (P := Tryz.prog) (T := 39) Tryz.underlying39 hi hz0 hz1 hz2 rfl p2a (.string (G.getD q ⟨#[]⟩)) rfl (by omega) (by rw [List.length_map, chL_length]; omega) (by rw [List.length_map, chL_length]; omega)
        have oA' := oA.kept kB apA
        have apB := apA.push oA cB
        rcases S3.srow with ⟨_, e⟩ | ⟨bs, os, caps, rfl, hSs⟩
        · have := hnH.out; rw [e] at this; simp at this; omega
        rcases W3.srow with ⟨_, e⟩ | ⟨bg, og, capg, rfl, hSg⟩
        · have := lwH.out; rw [e] at this; simp at this; omega
        have d1 := (hSs.below hbel).cell q (by rw [hnH.out]; exact hlt)
        have d2 := (hSg.below (hbel.trans bA)).cell q (by rw [lwH.out]; exact hlt)
        have l1 : (q : Int) < (shards.length : Int) := by rw [hnH.out]; exact b1
        have l2 : (q : Int) < (G.length : Int) := by rw [lwH.out]; exact b1
        clear hb1 hs1 hs2 hc kA kB cA cB
        generalize shards.getD q ⟨#[]⟩ = sq at *
        generalize G.getD q ⟨#[]⟩ = gq at *
        go_wp2_with (first | (at_builtin; refine wpList_append_run hapA _ _ rfl rfl rfl rfl rfl ?_) | (at_builtin; refine wpList_append_run hapB _ _ rfl rfl rfl rfl rfl ?_))
        go_roundw
        case rel => exact ⟨q + 1, by omega, by go_num, by rw [h1'.out, tx_app]; exact oA', by rw [h2'.out, tx_app]; exact oB, apB, (hbel.trans bA).trans bB⟩
        case measure => simp [RowKit.intOf]; omega
      | false =>
        rw [hb1] at hs1 hs2 hck
        rw [if_neg (by decide)] at hs1 hs2
        have h1' := Lib.hid hs1
        have h2' := Lib.hid hs2
        clear hb1 hs1 hs2 hc
        go_wp2_with (fail)
        go_roundw
        case rel => exact ⟨q + 1, by omega, by go_num, by rw [h1'.out]; exact p1, by rw [h2'.out]; exact p2, ap, hbel⟩
        case measure => simp [RowKit.intOf]; omega
    · have e : q = n := by omega
      subst e
      rw [← hallH.out] at p1 p2 hle
      generalize idxL hv = r at *
      have hal := fun W (hW : Below wr.heap.size wr W) => rshards_any u (chL r shards) W (p1.reads.below hW) fch.out
      have l1 := fun W => p1.reads.len_run (P := Tryz.prog) Tryz.underlying39 3 W
      rw [List.length_map, chL_length] at l1
      have Br : Below w.heap.size w wr := below_c B3 hbel
      cases ha : alikeL (chL r shards) with
      | false =>
        rw [ha] at hal
        have hzz := hz.out
        rw [ha] at hzz
        have hz' := Lib.hid hzz
        clear hzz ha hEz hLz hLf hz
        go_wp2_with (fail)
        refine (hal _ (Below.refl _ _)).mono ?_
        rintro e w4 ⟨rfl, b4⟩
        go_wp2_with (fail)
        go_ret2
        exact dec_bad w (M : Int) shards hv hz' _ (below_c Br b4)
      | true =>
        rw [ha] at hal
        have hE2 := hEz.out
        rw [ha, if_pos rfl] at hE2
        by_cases hkl : k ≤ r.length
        · obtain ⟨q1, q4, q5, q6⟩ := hLz.out ha hkl
          rw [if_pos hkl] at hE2
          have hE3 := Lib.hid hE2
          have hL3 := Lib.hid q1
          have e1 : decide (r.length < k) = false := by rw [decide_eq_false_iff_not]; omega
          have e1' : decide ((r.length : Int) < (k : Int)) = false := by rw [decide_eq_false_iff_not]; omega
          obtain ⟨vr2, slr, rr2⟩ := p2.reads.to_run (P := Tryz.prog) Tryz.underlying39 hi hz1 p2.capOk (m := k) (by rw [List.length_map, chL_length]; omega)
          obtain ⟨vc2, slc, rc2⟩ := p1.reads.to_run (P := Tryz.prog) Tryz.underlying39 hi hz1 p1.capOk (m := k) (by rw [List.length_map, chL_length]; omega)
          rw [← chL_take] at rr2 rc2
          have hinv := fun W v hv => rinverse_any v (chL (r.take k) G) W hv q4
          have hmul := fun W va vb ha hb => rmxmul_any va vb (invL (chL (r.take k) G)) (chL (r.take k) shards) W ha hb q5 q6
          rw [← q1] at hmul
          clear hE2 q1 hLz hLf hEz hz ha
          go_wp2_with (fail)
          refine (hal _ (Below.refl _ _)).mono ?_
          rintro e w4 ⟨rfl, b4⟩
          go_wp2_with (fail)
          refine (hinv _ _ (rr2.below b4)).mono ?_
          rintro e w5 ⟨v5, rfl, o5, b5⟩
          go_wp2_with (fail)
          refine (hmul _ _ _ o5.reads (rc2.below (below_c b4 b5))).mono ?_
          rintro e w6 ⟨v6, rfl, o6, b6⟩
          have Bf := below_c (below_c (below_c Br b4) b5) b6
          go_wp2_with (fail)
          go_ret2
          exact ⟨v6, by rw [hE3.out]; rfl, o6.mono (below_c (below_c Br b4) b5).size, Bf⟩
        · have e1 : decide (r.length < k) = true := by rw [decide_eq_true_eq]; omega
          have e1' : decide ((r.length : Int) < (k : Int)) = true := by rw [decide_eq_true_eq]; omega
          rw [if_neg hkl] at hE2
          have hE3 := Lib.hid hE2
          have hL3 := Lib.hid (hLf.out ha hkl)
          clear hE2 hLz hLf hEz hz ha hkl
          go_wp2_with (fail)
          refine (hal _ (Below.refl _ _)).mono ?_
          rintro e w4 ⟨rfl, b4⟩
          go_wp2_with (fail)
          go_ret2
          exact ⟨.slice none 0 0, by rw [hE3.out]; rfl, by rw [hL3.out]; exact Own.nil _ _ _, below_c Br b4⟩
theorem rdecode_any (m : Int) (vs vh : Value) (shards : List ByteArray) (hv : List Bool) (w : World) (hS : Reads w vs (tx shards)) (hH : Reads w vh (bv hv)) (fs : Fits shards) (hn : shards.length ≤ 1000000) (hh : hv.length ≤ 140737488355328) (m1 : -9223372036854775808 ≤ m) (m2 : m ≤ 9223372036854775807) :
    Calls Tryz.prog 73 #[.int .i64 m, vs, vh] w (GivesL w (decL m shards hv) (decE m shards hv)) := by
  by_cases h : decB m shards hv = true
  · obtain ⟨f1, _⟩ := decB_facts h
    obtain ⟨M, rfl⟩ := Int.eq_ofNat_of_zero_le (show 0 ≤ m by omega)
    exact rdecode_right M vs vh shards hv w hS hH fs h
  · exact rdecode_form m vs vh shards hv w hS hH hn hh m1 m2 (by simpa using h)
end Go.Proofs.YtjgafpkpoppcbaaGreatDoor
end
