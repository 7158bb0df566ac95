/- label: a label taken up, walked. -/
import Derived.Test.YtaopknddpagjeaaDoorLabGet
import Derived.BigRegion
namespace Go.Proofs.YtaopknddpagjeaaDoor
open Go.RowKit
set_option linter.unusedVariables false
set_option linter.unusedSimpArgs false
open Lb

set_option maxRecDepth 100000 in
set_option maxHeartbeats 1500000 in
theorem lget_any (s : ByteArray) (w : World) (hs : s.size ≤ 140737488355328) : Calls Tryd.prog 13 #[.string s] w (GivesL w (getL s) (getE s)) := by
  obtain ⟨p0, hp0⟩ : ∃ p, w.heap.size = p := ⟨_, rfl⟩
  have hmf : ∀ (fn : Fn) (first cap : Array Value) (w : World), (Instr.makeFunc fn first cap).run Tryd.prog w = .ok (.func fn first cap) w := fun _ _ _ _ => rfl
  go_enter Tryd.func13, Tryd.ntmps13
  go_wp2_with (fail)
  refine (new_any s _).mono ?_
  rintro e w1 ⟨rfl, rfl⟩
  go_wp2_with (fail)
  have hs1 : (w.alloc (.cells #[.int .i64 0, .int .i64 0, .int .i64 0, .int .i64 0, .int .i64 0, .int .i64 0, .slice none 0 0, .slice none 0 0, .slice none 0 0] 26)).heap.size = p0 + 1 := by simp [hp0]
  have hs2 : ((w.alloc (.cells #[.int .i64 0, .int .i64 0, .int .i64 0, .int .i64 0, .int .i64 0, .int .i64 0, .slice none 0 0, .slice none 0 0, .slice none 0 0] 26)).alloc (.cells #[.string s, .bool false] 86)).heap.size = p0 + 1 + 1 := by simp [hp0]
  have hs3 : (((w.alloc (.cells #[.int .i64 0, .int .i64 0, .int .i64 0, .int .i64 0, .int .i64 0, .int .i64 0, .slice none 0 0, .slice none 0 0, .slice none 0 0] 26)).alloc (.cells #[.string s, .bool false] 86)).alloc (.cells #[.pointer (some ⟨p0 + 1, 0, none⟩)] 66)).heap.size = p0 + 1 + 1 + 1 := by simp [hp0]
  have b1 : Below (p0 + 1) (w.alloc (.cells #[.int .i64 0, .int .i64 0, .int .i64 0, .int .i64 0, .int .i64 0, .int .i64 0, .slice none 0 0, .slice none 0 0, .slice none 0 0] 26)) ((w.alloc (.cells #[.int .i64 0, .int .i64 0, .int .i64 0, .int .i64 0, .int .i64 0, .int .i64 0, .slice none 0 0, .slice none 0 0, .slice none 0 0] 26)).alloc (.cells #[.string s, .bool false] 86)) := (Below.refl _ _).alloc (by omega) _
  have b2 : Below (p0 + 1 + 1) ((w.alloc (.cells #[.int .i64 0, .int .i64 0, .int .i64 0, .int .i64 0, .int .i64 0, .int .i64 0, .slice none 0 0, .slice none 0 0, .slice none 0 0] 26)).alloc (.cells #[.string s, .bool false] 86)) (((w.alloc (.cells #[.int .i64 0, .int .i64 0, .int .i64 0, .int .i64 0, .int .i64 0, .int .i64 0, .slice none 0 0, .slice none 0 0, .slice none 0 0] 26)).alloc (.cells #[.string s, .bool false] 86)).alloc (.cells #[.pointer (some ⟨p0 + 1, 0, none⟩)] 66)) := (Below.refl _ _).alloc (by omega) _
  have b0 : Below p0 w (w.alloc (.cells #[.int .i64 0, .int .i64 0, .int .i64 0, .int .i64 0, .int .i64 0, .int .i64 0, .slice none 0 0, .slice none 0 0, .slice none 0 0] 26)) := (Below.refl _ _).alloc (by omega) _
  have x3 := ((LblBox.made w 26).below b1 (by omega)).below b2 (by omega)
  have r3 := (RdAt.made (w.alloc (.cells #[.int .i64 0, .int .i64 0, .int .i64 0, .int .i64 0, .int .i64 0, .int .i64 0, .slice none 0 0, .slice none 0 0, .slice none 0 0] 26)) s 86).below b2 (by omega)
  have v3 : (((w.alloc (.cells #[.int .i64 0, .int .i64 0, .int .i64 0, .int .i64 0, .int .i64 0, .int .i64 0, .slice none 0 0, .slice none 0 0, .slice none 0 0] 26)).alloc (.cells #[.string s, .bool false] 86)).alloc (.cells #[.pointer (some ⟨p0 + 1, 0, none⟩)] 66)).cell? ⟨p0 + 1 + 1, 0, none⟩ = some (.pointer (some ⟨p0 + 1, 0, none⟩)) := by rw [← hs2, World.cell?_alloc_mark]; rfl
  have B3 : Below p0 w (((w.alloc (.cells #[.int .i64 0, .int .i64 0, .int .i64 0, .int .i64 0, .int .i64 0, .int .i64 0, .slice none 0 0, .slice none 0 0, .slice none 0 0] 26)).alloc (.cells #[.string s, .bool false] 86)).alloc (.cells #[.pointer (some ⟨p0 + 1, 0, none⟩)] 66)) := (b0.trans (b1.mono (by omega))).trans (b2.mono (by omega))
  rw [hp0] at x3
  rw [hs1] at r3
  clear b0 b1 b2 hs1 hs2
  generalize ((w.alloc (.cells #[.int .i64 0, .int .i64 0, .int .i64 0, .int .i64 0, .int .i64 0, .int .i64 0, .slice none 0 0, .slice none 0 0, .slice none 0 0] 26)).alloc (.cells #[.string s, .bool false] 86)).alloc (.cells #[.pointer (some ⟨p0 + 1, 0, none⟩)] 66) = w3 at *
  refine (rdtxt_q (p0 + 1) ⟨s, false⟩ 4 _ r3 hs).mono ?_
  rintro e w4 ⟨rfl, r4⟩
  have x4 := x3.rd r4 (by omega)
  have v4 : w4.cell? ⟨p0 + 1 + 1, 0, none⟩ = some (.pointer (some ⟨p0 + 1, 0, none⟩)) := by rw [cell_of_heap (r4.oth (p0 + 1 + 1) (by omega) (by omega))]; exact v3
  have B4 := B3.trans (r4.keep p0 (by omega) (by omega))
  have hs4 := r4.size
  rw [hs3] at hs4
  have R4 := r4.r
  clear x3 r3 v3 B3 r4 hs3 w3
  have tq := word_eq s
  have hgb : getB s = (decide (word s = Lb.mark) && (rightB (gotL s) && endsB (q2 s))) := rfl
  have ⟨e0, e1, e2, e3, e4, e5, e6, e7, e8, elt⟩ := x4.a
  have u0 := x4.f 0
  have u1 := x4.f 1
  have u2 := x4.f 2
  have u3 := x4.f 3
  have u4 := x4.f 4
  have u5 := x4.f 5
  have u6 := x4.f 6
  have u7 := x4.f 7
  have u8 := x4.f 8
  cases hwd : decide (word s = Lb.mark) with
  | false =>
    rw [hwd] at tq hgb
    have hz : Hid (getL s = noLbl ∧ getE s = 100) := Lib.hid (by
      rw [Bool.false_and] at hgb
      exact ⟨by rw [getL, hgb]; rfl, by rw [getE, hgb]; rfl⟩)
    clear hgb hwd
    go_wp2_with (fail)
    refine bodyPost_ret (res_get (x4.put noLbl (.slice none 0 0) (.slice none 0 0) (.slice none 0 0)) rfl rfl) rfl ?_
    rw [hz.out.1, hz.out.2]
    have hp0' := hp0
    refine ⟨_, _, _, rfl, ⟨.inl ⟨⟨_, _, rfl⟩, rfl⟩, .inl ⟨⟨_, _, rfl⟩, rfl⟩, .inl ⟨⟨_, _, rfl⟩, rfl⟩, Nat.zero_le _, Nat.zero_le _, Nat.zero_le _⟩, ?_⟩
    rw [hp0]
    exact setL_below B4 (Nat.le_refl p0) noLbl (.slice none 0 0) (.slice none 0 0) (.slice none 0 0)
  | true =>
    rw [hwd] at tq hgb
    clear hwd
    go_wp2_with (fail)
    have x5 := LblBox.made w4 26
    have bz : Below w4.heap.size w4 (w4.alloc (.cells #[.int .i64 0, .int .i64 0, .int .i64 0, .int .i64 0, .int .i64 0, .int .i64 0, .slice none 0 0, .slice none 0 0, .slice none 0 0] 26)) := (Below.refl _ _).alloc (Nat.le_refl _) _
    have z5 := x4.below bz elt
    have R5 := R4.below bz (by omega)
    have v5 : (w4.alloc (.cells #[.int .i64 0, .int .i64 0, .int .i64 0, .int .i64 0, .int .i64 0, .int .i64 0, .slice none 0 0, .slice none 0 0, .slice none 0 0] 26)).cell? ⟨p0 + 1 + 1, 0, none⟩ = some (.pointer (some ⟨p0 + 1, 0, none⟩)) := (bz.cell (p := ⟨p0 + 1 + 1, 0, none⟩) (by show p0 + 1 + 1 < _; omega)).trans v4
    have B5 := B4.trans (bz.mono (by omega))
    have hs5 : (w4.alloc (.cells #[.int .i64 0, .int .i64 0, .int .i64 0, .int .i64 0, .int .i64 0, .int .i64 0, .slice none 0 0, .slice none 0 0, .slice none 0 0] 26)).heap.size = w4.heap.size + 1 := by simp
    clear e0 e1 e2 e3 e4 e5 e6 e7 e8 u0 u1 u2 u3 u4 u5 u6 u7 u8 tq x4 bz v4 R4 B4
    generalize w4.alloc (.cells #[.int .i64 0, .int .i64 0, .int .i64 0, .int .i64 0, .int .i64 0, .int .i64 0, .slice none 0 0, .slice none 0 0, .slice none 0 0] 26) = w5 at *
    obtain ⟨lb, hlb⟩ : ∃ q, w4.heap.size = q := ⟨_, rfl⟩
    rw [hlb] at x5 hs5 hs4 elt ⊢
    clear hlb w4
    refine (head_any lb w5).mono ?_
    rintro e w6 ⟨v6, rfl, o6, b6, _⟩
    obtain ⟨g6, cap6, rfl, hg6, hg6'⟩ := o6.form (by simp [headF])
    have x6 := x5.below b6 (by omega)
    have z6 := z5.below b6 (by omega)
    have R6 := R5.below b6 (by omega)
    have v6 : w6.cell? ⟨p0 + 1 + 1, 0, none⟩ = _ := (b6.cell (p := ⟨p0 + 1 + 1, 0, none⟩) (by show p0 + 1 + 1 < _; omega)).trans v5
    have B6 := B5.trans (b6.mono (by omega))
    have hs6 := b6.size
    have r6 := o6.reads
    clear x5 z5 R5 v5 B5 b6 o6
    have hfl : Flds p0 (p0 + 1) g6 (p0 + 1 + 1) (headF lb) w6 := head_flds (by omega) x6.a.lt (by omega) (by omega) (by omega) (fun o ho => by
      rcases (by omega : o = 0 ∨ o = 1 ∨ o = 2 ∨ o = 3 ∨ o = 4 ∨ o = 5) with rfl | rfl | rfl | rfl | rfl | rfl
      · exact ⟨_, x6.a.c0⟩
      · exact ⟨_, x6.a.c1⟩
      · exact ⟨_, x6.a.c2⟩
      · exact ⟨_, x6.a.c3⟩
      · exact ⟨_, x6.a.c4⟩
      · exact ⟨_, x6.a.c5⟩) x6.f
    have hq0 : (q0 s).s.size ≤ 140737488355328 := Nat.le_trans (rTxtR_size _ _) hs
    have cG := read_any p0 g6 cap6 (p0 + 1 + 1) (p0 + 1) (headF lb) hW (q0 s) w6 r6 hg6' (by omega) v6 (by omega) (by omega) R6 hq0 hfl (headF_w lb) (by simp [headF]) (by omega) (by omega)
    rw [show (headF lb).length = 6 from rfl] at cG
    go_wp2_with (fail)
    refine cG.mono ?_
    rintro e w7 ⟨rfl, W7⟩
    have x7 := x6.read W7 (by omega)
    have hblk : ∀ i, i < 6 → (fA (headF lb) i).block = lb := fun i hi => by rw [fA_head lb i hi]
    have z7 := z6.wr W7 (by omega) (fun i hi => by rw [hblk i hi]; omega)
    have v7 : w7.cell? ⟨p0 + 1 + 1, 0, none⟩ = some (.pointer (some ⟨p0 + 1, 0, none⟩)) := (W7.oth (p0 + 1 + 1) 0 (by omega) (by omega) (fun i hi e => by have := hblk i hi; rw [e] at this; simp at this; omega)).trans v6
    have R7 := W7.rd
    have B7 := B6.trans W7.below
    have hs7 := W7.below.size
    clear cG r6 hfl x6 z6 R6 v6 B6 W7 hblk
    have hlk : Hid (hd s = rList hW (q0 s)) := Lib.hid rfl
    obtain ⟨h0, l0⟩ : ∃ x, (rList hW (q0 s)).getD 0 0 = x := ⟨_, rfl⟩
    obtain ⟨h1, l1⟩ : ∃ x, (rList hW (q0 s)).getD 1 0 = x := ⟨_, rfl⟩
    obtain ⟨h2, l2⟩ : ∃ x, (rList hW (q0 s)).getD 2 0 = x := ⟨_, rfl⟩
    obtain ⟨h3, l3⟩ : ∃ x, (rList hW (q0 s)).getD 3 0 = x := ⟨_, rfl⟩
    obtain ⟨h4, l4⟩ : ∃ x, (rList hW (q0 s)).getD 4 0 = x := ⟨_, rfl⟩
    obtain ⟨h5, l5⟩ : ∃ x, (rList hW (q0 s)).getD 5 0 = x := ⟨_, rfl⟩
    rw [l0, l1, l2, l3, l4, l5] at x7
    replace l0 := Lib.hid l0
    replace l1 := Lib.hid l1
    replace l2 := Lib.hid l2
    replace l3 := Lib.hid l3
    replace l4 := Lib.hid l4
    replace l5 := Lib.hid l5
    obtain ⟨n, hn⟩ := Int.eq_ofNat_of_zero_le (slots_rng h2 h3 h4).1
    have hn7 : n ≤ 7 := by have := (slots_rng h2 h3 h4).2; omega
    have cS : ∀ W, Calls Tryd.prog 36 #[.agg #[.int .i64 h2, .int .i64 h3, .int .i64 h4]] W fun e w' => e = .returned (.int .i64 (n : Int)) ∧ Below W.heap.size W w' := fun W => hn ▸ slots_any h2 h3 h4 W
    replace hn := Lib.hid hn
    have ⟨e0, e1, e2, e3, e4, e5, e6, e7, e8, elt⟩ := x7.a
    go_wp2_with (fail)
    refine (cS _).mono ?_
    rintro e w8 ⟨rfl, b8⟩
    have x8 := x7.below b8 elt
    have z8 := z7.below b8 (by omega)
    have R8 := R7.below b8 (by omega)
    have v8 : w8.cell? ⟨p0 + 1 + 1, 0, none⟩ = _ := (b8.cell (p := ⟨p0 + 1 + 1, 0, none⟩) (by show p0 + 1 + 1 < _; omega)).trans v7
    have B8 := B7.trans (b8.mono (by omega))
    have hs8 := b8.size
    have lt8 : lb < w8.heap.size := by omega
    have hlb3 : p0 + 1 + 1 + 1 ≤ lb := hs4
    clear e0 e1 e2 e3 e4 e5 e6 e7 e8 elt x7 z7 R7 v7 B7 b8 cS hs4 hs6 hg6 hg6'
    go_wp2_with (fail)
    have hmk : ∀ W, (Instr.makeSlice 24 (.int .i64 (n : Int)) (.int .i64 (n : Int))).run Tryd.prog W = .ok (.slice (some ⟨W.heap.size, 0, none⟩) n n) (W.alloc (.cells (madeCells #[.int .i64 0] n) 3)) := fun W => run_make_row' 24 3 (.int .i64 0) 8 Tryd.underlying24 Tryd.infoI rfl .i64 .i64 n (by omega) (by omega) W
    have e6 := x8.a.c6
    have e7 := x8.a.c7
    have e8 := x8.a.c8
    have u6 := x8.f 6
    have u7 := x8.f 7
    have u8 := x8.f 8
    have lt8a : lb < w8.heap.size + 1 := by omega
    have lt8b : lb < w8.heap.size + 1 + 1 := by omega
    go_region
    all_goals
      first
      | (obtain ⟨A, B, C, w9, hW, M, d1, d2, d3⟩ : ∃ A B C W, ((((((w8.setCell ⟨lb, 6, none⟩ (.slice (some ⟨w8.heap.size, 0, none⟩) n n)).setCell ⟨lb, 7, none⟩ (.slice (some ⟨w8.heap.size + 1, 0, none⟩) n n)).setCell ⟨lb, 8, none⟩ (.slice (some ⟨w8.heap.size + 1 + 1, 0, none⟩) n n)).alloc (.cells (madeCells #[.int .i64 0] n) 3)).alloc (.cells (madeCells #[.int .i64 0] n) 3)).alloc (.cells (madeCells #[.int .i64 0] n) 3)).drew = W ∧ Got3 w8 W lb n A B C ⟨h0, h1, h5, h2, h3, h4, noLbl.st, noLbl.bo, noLbl.cu⟩ ∧ A ≠ B ∧ A ≠ C ∧ B ≠ C := ⟨w8.heap.size, w8.heap.size + 1, w8.heap.size + 1 + 1, _, rfl, got3 x8 ⟨by omega, by omega⟩ ⟨by omega, by omega⟩ ⟨by omega, by omega⟩, by omega, by omega, by omega⟩; rw [hW]; clear hW; clear e6 e7 e8 u6 u7 u8 hmk lt8a lt8b)
      | (obtain ⟨A, B, C, w9, hW, M, d1, d2, d3⟩ : ∃ A B C W, ((((((w8.setCell ⟨lb, 6, none⟩ (.slice (some ⟨w8.heap.size, 0, none⟩) n n)).setCell ⟨lb, 7, none⟩ (.slice (some ⟨w8.heap.size + 1 + 1, 0, none⟩) n n)).setCell ⟨lb, 8, none⟩ (.slice (some ⟨w8.heap.size + 1, 0, none⟩) n n)).alloc (.cells (madeCells #[.int .i64 0] n) 3)).alloc (.cells (madeCells #[.int .i64 0] n) 3)).alloc (.cells (madeCells #[.int .i64 0] n) 3)).drew = W ∧ Got3 w8 W lb n A B C ⟨h0, h1, h5, h2, h3, h4, noLbl.st, noLbl.bo, noLbl.cu⟩ ∧ A ≠ B ∧ A ≠ C ∧ B ≠ C := ⟨w8.heap.size, w8.heap.size + 1 + 1, w8.heap.size + 1, _, rfl, got3 x8 ⟨by omega, by omega⟩ ⟨by omega, by omega⟩ ⟨by omega, by omega⟩, by omega, by omega, by omega⟩; rw [hW]; clear hW; clear e6 e7 e8 u6 u7 u8 hmk lt8a lt8b)
      | (obtain ⟨A, B, C, w9, hW, M, d1, d2, d3⟩ : ∃ A B C W, ((((((w8.setCell ⟨lb, 6, none⟩ (.slice (some ⟨w8.heap.size + 1, 0, none⟩) n n)).setCell ⟨lb, 7, none⟩ (.slice (some ⟨w8.heap.size, 0, none⟩) n n)).setCell ⟨lb, 8, none⟩ (.slice (some ⟨w8.heap.size + 1 + 1, 0, none⟩) n n)).alloc (.cells (madeCells #[.int .i64 0] n) 3)).alloc (.cells (madeCells #[.int .i64 0] n) 3)).alloc (.cells (madeCells #[.int .i64 0] n) 3)).drew = W ∧ Got3 w8 W lb n A B C ⟨h0, h1, h5, h2, h3, h4, noLbl.st, noLbl.bo, noLbl.cu⟩ ∧ A ≠ B ∧ A ≠ C ∧ B ≠ C := ⟨w8.heap.size + 1, w8.heap.size, w8.heap.size + 1 + 1, _, rfl, got3 x8 ⟨by omega, by omega⟩ ⟨by omega, by omega⟩ ⟨by omega, by omega⟩, by omega, by omega, by omega⟩; rw [hW]; clear hW; clear e6 e7 e8 u6 u7 u8 hmk lt8a lt8b)
      | (obtain ⟨A, B, C, w9, hW, M, d1, d2, d3⟩ : ∃ A B C W, ((((((w8.setCell ⟨lb, 6, none⟩ (.slice (some ⟨w8.heap.size + 1, 0, none⟩) n n)).setCell ⟨lb, 7, none⟩ (.slice (some ⟨w8.heap.size + 1 + 1, 0, none⟩) n n)).setCell ⟨lb, 8, none⟩ (.slice (some ⟨w8.heap.size, 0, none⟩) n n)).alloc (.cells (madeCells #[.int .i64 0] n) 3)).alloc (.cells (madeCells #[.int .i64 0] n) 3)).alloc (.cells (madeCells #[.int .i64 0] n) 3)).drew = W ∧ Got3 w8 W lb n A B C ⟨h0, h1, h5, h2, h3, h4, noLbl.st, noLbl.bo, noLbl.cu⟩ ∧ A ≠ B ∧ A ≠ C ∧ B ≠ C := ⟨w8.heap.size + 1, w8.heap.size + 1 + 1, w8.heap.size, _, rfl, got3 x8 ⟨by omega, by omega⟩ ⟨by omega, by omega⟩ ⟨by omega, by omega⟩, by omega, by omega, by omega⟩; rw [hW]; clear hW; clear e6 e7 e8 u6 u7 u8 hmk lt8a lt8b)
      | (obtain ⟨A, B, C, w9, hW, M, d1, d2, d3⟩ : ∃ A B C W, ((((((w8.setCell ⟨lb, 6, none⟩ (.slice (some ⟨w8.heap.size + 1 + 1, 0, none⟩) n n)).setCell ⟨lb, 7, none⟩ (.slice (some ⟨w8.heap.size, 0, none⟩) n n)).setCell ⟨lb, 8, none⟩ (.slice (some ⟨w8.heap.size + 1, 0, none⟩) n n)).alloc (.cells (madeCells #[.int .i64 0] n) 3)).alloc (.cells (madeCells #[.int .i64 0] n) 3)).alloc (.cells (madeCells #[.int .i64 0] n) 3)).drew = W ∧ Got3 w8 W lb n A B C ⟨h0, h1, h5, h2, h3, h4, noLbl.st, noLbl.bo, noLbl.cu⟩ ∧ A ≠ B ∧ A ≠ C ∧ B ≠ C := ⟨w8.heap.size + 1 + 1, w8.heap.size, w8.heap.size + 1, _, rfl, got3 x8 ⟨by omega, by omega⟩ ⟨by omega, by omega⟩ ⟨by omega, by omega⟩, by omega, by omega, by omega⟩; rw [hW]; clear hW; clear e6 e7 e8 u6 u7 u8 hmk lt8a lt8b)
      | (obtain ⟨A, B, C, w9, hW, M, d1, d2, d3⟩ : ∃ A B C W, ((((((w8.setCell ⟨lb, 6, none⟩ (.slice (some ⟨w8.heap.size + 1 + 1, 0, none⟩) n n)).setCell ⟨lb, 7, none⟩ (.slice (some ⟨w8.heap.size + 1, 0, none⟩) n n)).setCell ⟨lb, 8, none⟩ (.slice (some ⟨w8.heap.size, 0, none⟩) n n)).alloc (.cells (madeCells #[.int .i64 0] n) 3)).alloc (.cells (madeCells #[.int .i64 0] n) 3)).alloc (.cells (madeCells #[.int .i64 0] n) 3)).drew = W ∧ Got3 w8 W lb n A B C ⟨h0, h1, h5, h2, h3, h4, noLbl.st, noLbl.bo, noLbl.cu⟩ ∧ A ≠ B ∧ A ≠ C ∧ B ≠ C := ⟨w8.heap.size + 1 + 1, w8.heap.size + 1, w8.heap.size, _, rfl, got3 x8 ⟨by omega, by omega⟩ ⟨by omega, by omega⟩ ⟨by omega, by omega⟩, by omega, by omega, by omega⟩; rw [hW]; clear hW; clear e6 e7 e8 u6 u7 u8 hmk lt8a lt8b)
      have hz8 := z8.a.lt
      have z9 := z8.heap (M.oth p0 hz8 (by omega)) (by rw [M.size]; omega)
      have eR := M.oth (p0 + 1) R8.lt (by omega)
      have R9 : RdAt w9 (p0 + 1) (rListR hW (q0 s)).s (rListR hW (q0 s)).b := ⟨by rw [cell_of_heap eR]; exact R8.c0, by rw [cell_of_heap eR]; exact R8.c1, by rw [frozen_of_heap eR]; exact R8.f0, by rw [frozen_of_heap eR]; exact R8.f1, by rw [M.size]; omega⟩
      have v9 : w9.cell? ⟨p0 + 1 + 1, 0, none⟩ = _ := (cell_of_heap (M.oth (p0 + 1 + 1) (by omega) (by omega)) 0).trans v8
      have B9 := B8.trans (M.below.mono (by omega))
      have hs9 := M.size
      have x9 := M.box
      have r9 := M.rows
      clear eR z8 R8 v8 B8 x8 M
      go_wp2_with (fail)
      refine (tail_any lb A 0 B 0 C 0 n n n n _ _ _ w9 x9.a.lt (by omega) x9.a.c6 x9.a.c7 x9.a.c8 (fun _ => rfl) (fun _ => rfl) (fun _ => rfl)).mono ?_
      rintro e wA ⟨vt, rfl, oA, bA⟩
      have zA := z9.below bA (by omega)
      have xA := x9.below bA x9.a.lt
      have RA := R9.below bA R9.lt
      have vA : wA.cell? ⟨p0 + 1 + 1, 0, none⟩ = _ := (bA.cell (p := ⟨p0 + 1 + 1, 0, none⟩) (by show p0 + 1 + 1 < _; omega)).trans v9
      have BA := B9.trans (bA.mono (by omega))
      have sA := bA.size
      have rA : ∀ x, x = A ∨ x = B ∨ x = C → w8.heap.size ≤ x ∧ x < w9.heap.size ∧ ∀ k, k < n → (∃ u, wA.cell? ⟨x, k, none⟩ = some (.int .i64 u)) ∧ wA.frozen? ⟨x, k, none⟩ = false := fun x hx => by
        obtain ⟨t1, t2, t3⟩ := r9 x hx
        exact ⟨t2, t1, fun k hk => ⟨by rw [bA.cell (p := ⟨x, k, none⟩) t1]; exact (t3 k hk).1, by rw [bA.frozen (p := ⟨x, k, none⟩) t1]; exact (t3 k hk).2⟩⟩
      have hq1 : (rListR hW (q0 s)).s.size ≤ 140737488355328 := Nat.le_trans (rListR_size _ _) hq0
      have gA := rA A (.inl rfl)
      have gB := rA B (.inr (.inl rfl))
      have gC := rA C (.inr (.inr rfl))
      have cT := read_tail p0 A B C (p0 + 1 + 1) (p0 + 1) n (rListR hW (q0 s)) vt wA (oA.mono (by omega)) (fun k hk => by have := oA.lt k hk; omega) vA (by omega) (by omega) RA hq1 hn7 (by omega) (by omega) ⟨d1, d2, d3⟩ (fun x hx => by
        obtain ⟨t1, t2, t3⟩ := rA x hx
        exact ⟨by omega, by omega, by omega, by omega, t3⟩)
      clear r9 x9 z9 R9 v9 B9 rA oA
      go_wp2_with (fail)
      refine cT.mono ?_
      rintro e wB ⟨rfl, WB⟩
      have hA0 : A ≠ lb ∧ B ≠ lb ∧ C ≠ lb ∧ A ≠ p0 ∧ B ≠ p0 ∧ C ≠ p0 := by omega
      have hbk : ∀ i, i < 3 * n → (fA (tailF A 0 B 0 C 0 n) i).block ≠ lb ∧ (fA (tailF A 0 B 0 C 0 n) i).block ≠ p0 := fun i hi => by
        rw [fA_tail A B C n i hi]
        rcases tB_cases A B C i with e | e | e <;> (show tB A B C i ≠ lb ∧ tB A B C i ≠ p0) <;> rw [e] <;> omega
      have xB := xA.wr WB (by omega) (fun i hi => (hbk i hi).1)
      have zB := zA.wr WB (by omega) (fun i hi => (hbk i hi).2)
      have RB := WB.rd
      have vB : wB.cell? ⟨p0 + 1 + 1, 0, none⟩ = _ := (WB.oth (p0 + 1 + 1) 0 (by omega) (by omega) (fun i hi e => by
        rw [fA_tail A B C n i hi] at e
        have e2 : tB A B C i = p0 + 1 + 1 := congrArg Addr.block e
        rcases tB_cases A B C i with e3 | e3 | e3 <;> omega)).trans vA
      have BB := BA.trans WB.below
      have sB := WB.below.size
      have hrd := tail_reads (W := wB) (a := A) (b := B) (c := C) (n := n) (t := rList (tW n) (rListR hW (q0 s))) (by rw [rList_len, tW_len]) (by omega) (by omega) (by omega) WB.got
      have hth := th_len n (rList (tW n) (rListR hW (q0 s))) (by rw [rList_len, tW_len])
      have eN : nN s = n := by rw [nN, slotsN, hlk.out, l2.out, l3.out, l4.out, hn.out]; rfl
      have eG : Hid (gotL s = ⟨h0, h1, h5, h2, h3, h4, th0 (rList (tW n) (rListR hW (q0 s))), th1 (rList (tW n) (rListR hW (q0 s))), th2 (rList (tW n) (rListR hW (q0 s)))⟩) := Lib.hid (by
        rw [gotL, eN, ofTail, hlk.out, l0.out, l1.out, l2.out, l3.out, l4.out, l5.out]; rfl)
      have eQ : q2 s = rListR (tW n) (rListR hW (q0 s)) := by rw [q2, eN]; rfl
      rw [← eQ] at RB
      clear cT xA zA RA vA BA WB hbk eN eQ
      generalize rList (tW n) (rListR hW (q0 s)) = tl at *
      have LB : LR wB (gotL s) (sl A n) (sl B n) (sl C n) := ⟨by rw [eG.out]; exact hrd.1, by rw [eG.out]; exact hrd.2.1, by rw [eG.out]; exact hrd.2.2, by rw [eG.out]; show (th0 tl).length ≤ _; omega, by rw [eG.out]; show (th1 tl).length ≤ _; omega, by rw [eG.out]; show (th2 tl).length ≤ _; omega⟩
      have yB : LblBox wB lb (gotL s) (sl A n) (sl B n) (sl C n) := by rw [eG.out]; exact ⟨⟨xB.a.c0, xB.a.c1, xB.a.c2, xB.a.c3, xB.a.c4, xB.a.c5, xB.a.c6, xB.a.c7, xB.a.c8, xB.a.lt⟩, xB.f⟩
      clear xB hrd hth eG l0 l1 l2 l3 l4 l5 hn hlk
      have hgl : Hid (getL s = if rightB (gotL s) && endsB (q2 s) then gotL s else noLbl) := Lib.hid (by rw [Bool.true_and] at hgb; rw [getL, hgb])
      have hge : Hid (getE s = if rightB (gotL s) && endsB (q2 s) then 0 else 100) := Lib.hid (by rw [Bool.true_and] at hgb; rw [getE, hgb])
      clear hgb
      have hq2 : (q2 s).s.size ≤ 140737488355328 := Nat.le_trans (rListR_size _ _) (Nat.le_trans (rListR_size _ _) hq0)
      have cE := fun W (h : RdAt W (p0 + 1) (q2 s).s (q2 s).b) => ends_any (p0 + 1) (q2 s).s (q2 s).b W h hq2
      rw [show (!(q2 s).b && zeroB (q2 s).s) = endsB (q2 s) from rfl] at cE
      generalize gotL s = y at *
      generalize q2 s = q at *
      have cR := lright_any y (.slice (some ⟨A, 0, none⟩) n n) (.slice (some ⟨B, 0, none⟩) n n) (.slice (some ⟨C, 0, none⟩) n n) wB LB
      unfold Lbl.v at cR
      replace yB : LblBox wB lb y (.slice (some ⟨A, 0, none⟩) n n) (.slice (some ⟨B, 0, none⟩) n n) (.slice (some ⟨C, 0, none⟩) n n) := yB
      have ⟨e0, e1, e2, e3, e4, e5, e6, e7, e8, elt⟩ := yB.a
      go_wp2_with (fail)
      refine cR.mono ?_
      rintro e wC ⟨rfl, bC⟩
      have yC := yB.below bC elt
      have zC := zB.below bC zB.a.lt
      have RC := RB.below bC RB.lt
      have vC : wC.cell? ⟨p0 + 1 + 1, 0, none⟩ = _ := (bC.cell (p := ⟨p0 + 1 + 1, 0, none⟩) (by show p0 + 1 + 1 < _; omega)).trans vB
      have BC := BB.trans (bC.mono (by omega))
      have LC := LB.below bC
      have sC := bC.size
      clear e0 e1 e2 e3 e4 e5 e6 e7 e8 elt yB zB RB vB BB LB bC cR
      have ⟨e0, e1, e2, e3, e4, e5, e6, e7, e8, elt⟩ := zC.a
      have u0 := zC.f 0
      have u1 := zC.f 1
      have u2 := zC.f 2
      have u3 := zC.f 3
      have u4 := zC.f 4
      have u5 := zC.f 5
      have u6 := zC.f 6
      have u7 := zC.f 7
      have u8 := zC.f 8
      cases hr : rightB y with
      | false =>
        rw [hr] at hgl hge
        replace hgl : Hid (getL s = noLbl) := Lib.hid hgl.out
        replace hge : Hid (getE s = 100) := Lib.hid hge.out
        clear hr cE LC RC yC
        go_wp2_with (fail)
        refine bodyPost_ret (res_get (zC.put noLbl (.slice none 0 0) (.slice none 0 0) (.slice none 0 0)) rfl rfl) rfl ?_
        rw [hgl.out, hge.out]
        refine ⟨_, _, _, rfl, ⟨.inl ⟨⟨_, _, rfl⟩, rfl⟩, .inl ⟨⟨_, _, rfl⟩, rfl⟩, .inl ⟨⟨_, _, rfl⟩, rfl⟩, Nat.zero_le _, Nat.zero_le _, Nat.zero_le _⟩, ?_⟩
        rw [hp0]
        exact setL_below BC (Nat.le_refl p0) noLbl (.slice none 0 0) (.slice none 0 0) (.slice none 0 0)
      | true =>
        rw [hr] at hgl hge
        clear hr
        go_wp2_with (fail)
        refine (cE _ RC).mono ?_
        rintro e wD ⟨rfl, nD, rfl⟩
        have zD : LblBox (wC.drewN nD) p0 noLbl (.slice none 0 0) (.slice none 0 0) (.slice none 0 0) := ⟨⟨zC.a.c0, zC.a.c1, zC.a.c2, zC.a.c3, zC.a.c4, zC.a.c5, zC.a.c6, zC.a.c7, zC.a.c8, zC.a.lt⟩, zC.f⟩
        have yD : LblBox (wC.drewN nD) lb y (.slice (some ⟨A, 0, none⟩) n n) (.slice (some ⟨B, 0, none⟩) n n) (.slice (some ⟨C, 0, none⟩) n n) := ⟨⟨yC.a.c0, yC.a.c1, yC.a.c2, yC.a.c3, yC.a.c4, yC.a.c5, yC.a.c6, yC.a.c7, yC.a.c8, yC.a.lt⟩, yC.f⟩
        have BD := belowN BC nD
        have LD : LR (wC.drewN nD) y (sl A n) (sl B n) (sl C n) := LC.below (belowN (Below.refl _ _) nD)
        clear e0 e1 e2 e3 e4 e5 e6 e7 e8 elt u0 u1 u2 u3 u4 u5 u6 u7 u8 zC yC BC LC RC cE
        generalize wC.drewN nD = wE at *
        have ⟨e0, e1, e2, e3, e4, e5, e6, e7, e8, elt⟩ := zD.a
        have u0 := zD.f 0
        have u1 := zD.f 1
        have u2 := zD.f 2
        have u3 := zD.f 3
        have u4 := zD.f 4
        have u5 := zD.f 5
        have u6 := zD.f 6
        have u7 := zD.f 7
        have u8 := zD.f 8
        cases he : endsB q with
        | false =>
          rw [he] at hgl hge
          replace hgl : Hid (getL s = noLbl) := Lib.hid hgl.out
          replace hge : Hid (getE s = 100) := Lib.hid hge.out
          clear he yD LD
          go_wp2_with (fail)
          refine bodyPost_ret (res_get (zD.put noLbl (.slice none 0 0) (.slice none 0 0) (.slice none 0 0)) rfl rfl) rfl ?_
          rw [hgl.out, hge.out]
          refine ⟨_, _, _, rfl, ⟨.inl ⟨⟨_, _, rfl⟩, rfl⟩, .inl ⟨⟨_, _, rfl⟩, rfl⟩, .inl ⟨⟨_, _, rfl⟩, rfl⟩, Nat.zero_le _, Nat.zero_le _, Nat.zero_le _⟩, ?_⟩
          rw [hp0]
          exact setL_below BD (Nat.le_refl p0) noLbl (.slice none 0 0) (.slice none 0 0) (.slice none 0 0)
        | true =>
          rw [he] at hgl hge
          replace hgl : Hid (getL s = y) := Lib.hid hgl.out
          replace hge : Hid (getE s = 0) := Lib.hid hge.out
          clear he
          have ⟨f0, f1, f2, f3, f4, f5, f6, f7, f8, flt⟩ := yD.a
          go_wp2_with (fail)
          refine bodyPost_ret (res_get (zD.put y (.slice (some ⟨A, 0, none⟩) n n) (.slice (some ⟨B, 0, none⟩) n n) (.slice (some ⟨C, 0, none⟩) n n)) rfl rfl) rfl ?_
          rw [hgl.out, hge.out]
          refine ⟨(.slice (some ⟨A, 0, none⟩) n n), (.slice (some ⟨B, 0, none⟩) n n), (.slice (some ⟨C, 0, none⟩) n n), rfl, ?_, ?_⟩
          · exact LD.setL (by omega) (by omega) (by omega) y _ _ _
          · rw [hp0]
            exact setL_below BD (Nat.le_refl p0) y (.slice (some ⟨A, 0, none⟩) n n) (.slice (some ⟨B, 0, none⟩) n n) (.slice (some ⟨C, 0, none⟩) n n)
end Go.Proofs.YtaopknddpagjeaaDoor
