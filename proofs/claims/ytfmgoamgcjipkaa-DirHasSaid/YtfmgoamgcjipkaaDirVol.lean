/- dir: a volume that is read. -/
import Derived.Test.YtfmgoamgcjipkaaDirPut
import Derived.Test.YtfmgoamgcjipkaaRdText
import Derived.Deep.RegionWith
namespace Go.Proofs.Ytfmgoamgcjipkaa
open Go.RowKit
set_option linter.unusedVariables false
set_option linter.unusedSimpArgs false
open Dr

/-- A volume in a block of the call's own. -/
structure VB (w : World) (b : Nat) (x : Vol) : Prop where
  c0 : w.cell? ⟨b, 0, none⟩ = some (.string x.n)
  c1 : w.cell? ⟨b, 1, none⟩ = some (.int .i64 x.s)
  c2 : w.cell? ⟨b, 2, none⟩ = some (.int .i64 x.r)
  f0 : w.frozen? ⟨b, 0, none⟩ = false
  f1 : w.frozen? ⟨b, 1, none⟩ = false
  f2 : w.frozen? ⟨b, 2, none⟩ = false
  lt : b < w.heap.size
theorem VB.heap {w w' : World} {b : Nat} {x : Vol} (h : VB w b x) (e : w'.heap[b]? = w.heap[b]?) (hs : w.heap.size ≤ w'.heap.size) : VB w' b x :=
  ⟨by rw [cell_of_heap e]; exact h.c0, by rw [cell_of_heap e]; exact h.c1, by rw [cell_of_heap e]; exact h.c2, by rw [frozen_of_heap e]; exact h.f0, by rw [frozen_of_heap e]; exact h.f1, by rw [frozen_of_heap e]; exact h.f2, Nat.lt_of_lt_of_le h.lt hs⟩
theorem VB.rd {w w' : World} {b c : Nat} {s : ByteArray} {bad : Bool} {x : Vol} (h : VB w c x) (hr : RdTo w b s bad w') (hne : c ≠ b) : VB w' c x := h.heap (hr.oth _ h.lt hne) hr.size
theorem VB.below {w w' : World} {B c : Nat} {x : Vol} (h : VB w c x) (hr : Below B w w') (hB : c < B) : VB w' c x := h.heap (hr.block _ hB) hr.size
theorem VB.made (w : World) (x : Vol) (T : TypeId) : VB (w.alloc (.cells #[.string x.n, .int .i64 x.s, .int .i64 x.r] T)) w.heap.size x :=
  ⟨by rw [World.cell?_alloc_mark]; rfl, by rw [World.cell?_alloc_mark]; rfl, by rw [World.cell?_alloc_mark]; rfl, frozen_of_row _ _ _ _ _ (heap_alloc_new _ _), frozen_of_row _ _ _ _ _ (heap_alloc_new _ _), frozen_of_row _ _ _ _ _ (heap_alloc_new _ _), by simp⟩
theorem VB.set {w : World} {c : Nat} {x : Vol} (h : VB w c x) (y : Vol) : VB (((w.setCell ⟨c, 0, none⟩ (.string y.n)).setCell ⟨c, 1, none⟩ (.int .i64 y.s)).setCell ⟨c, 2, none⟩ (.int .i64 y.r)) c y := by
  refine ⟨?_, ?_, ?_, ?_, ?_, ?_, ?_⟩
  · rw [World.cell?_setCell_other _ _ _ _ (by simp), World.cell?_setCell_other _ _ _ _ (by simp)]; exact World.cell?_setCell_same' w _ _ (by rw [h.c0]; rfl)
  · rw [World.cell?_setCell_other _ _ _ _ (by simp)]; exact World.cell?_setCell_same' _ _ _ (by rw [World.cell?_setCell_other _ _ _ _ (by simp), h.c1]; rfl)
  · exact World.cell?_setCell_same' _ _ _ (by rw [World.cell?_setCell_other _ _ _ _ (by simp), World.cell?_setCell_other _ _ _ _ (by simp), h.c2]; rfl)
  · simp only [World.frozen?_setCell]; exact h.f0
  · simp only [World.frozen?_setCell]; exact h.f1
  · simp only [World.frozen?_setCell]; exact h.f2
  · simpa using h.lt
theorem RdTo.setNew {w w' : World} {b g o : Nat} {s : ByteArray} {bad : Bool} (h : RdTo w b s bad w') (hg : w.heap.size ≤ g) (hne : b ≠ g) (v : Value) : RdTo w b s bad (w'.setCell ⟨g, o, none⟩ v) :=
  ⟨fun B h1 h2 => (h.keep B h1 h2).setCell (p := ⟨g, o, none⟩) (by show B ≤ g; omega) _, fun i hi hn => (Below.heap_setCell _ _ _ _ (by simp; omega)).trans (h.oth i hi hn), by
    have e : (w'.setCell ⟨g, o, none⟩ v).heap[b]? = w'.heap[b]? := Below.heap_setCell _ _ _ _ (by simpa using hne)
    exact ⟨by rw [cell_of_heap e]; exact h.r.c0, by rw [cell_of_heap e]; exact h.r.c1, by rw [frozen_of_heap e]; exact h.r.f0, by rw [frozen_of_heap e]; exact h.r.f1, by simpa using h.r.lt⟩⟩
def TakesR (w : World) (b : Nat) (v : Value) (q : RS) (e : Ending) (w' : World) : Prop := e = .returned v ∧ RdTo w b q.s q.b w'
theorem rdnum_q (b : Nat) (q : RS) (n : Int) (w : World) (h : RdAt w b q.s q.b) (hs : q.s.size ≤ 140737488355328) : Calls Try.prog 41 #[.pointer (some ⟨b, 0, none⟩), .int .i64 n] w (TakesR w b (.int .i64 ((rNum q n : Nat) : Int)) (rNumR q n)) := rdnum_any b q.s q.b n w h hs
theorem rdtxt_q (b : Nat) (q : RS) (n : Int) (w : World) (h : RdAt w b q.s q.b) (hs : q.s.size ≤ 140737488355328) : Calls Try.prog 40 #[.pointer (some ⟨b, 0, none⟩), .int .i64 n] w (TakesR w b (.string (rTxt q n)) (rTxtR q n)) := rdtext_any b q.s q.b n w h hs
theorem rrnum_q (b : Nat) (q : RS) (n : Int) (w : World) (h : RdAt w b q.s q.b) (hs : q.s.size ≤ 140737488355328) : Calls Try.prog 45 #[.pointer (some ⟨b, 0, none⟩), .int .i64 n] w (TakesR w b (.int .i64 ((rNum q n : Nat) : Int)) (rNumR q n)) := rnumr_any b q.s q.b n w h
theorem rrtxt_q (b : Nat) (q : RS) (n : Int) (w : World) (h : RdAt w b q.s q.b) (hs : q.s.size ≤ 140737488355328) : Calls Try.prog 44 #[.pointer (some ⟨b, 0, none⟩), .int .i64 n] w (TakesR w b (.string (rTxt q n)) (rTxtR q n)) := rtext_any b q.s q.b n w h
theorem res_vol {tm : Array Value} {W : World} {b : Nat} {x : Vol} (h : VB W b x) (h2 : tm.getD 2 undef = .pointer (some ⟨b, 0, none⟩)) :
    (results Try.f42 tm).run Try.prog W = .ok x.v W := by
  have h2' : tm[2]?.getD undef = .pointer (some ⟨b, 0, none⟩) := by simpa using h2
  simp [results, Try.results42, go_sem, h2', h.c0, h.c1, h.c2, Vol.v]
set_option maxRecDepth 100000 in
set_option maxHeartbeats 4000000 in
theorem volume_any (b : Nat) (q : RS) (w : World) (h : RdAt w b q.s q.b) (hs : q.s.size ≤ 140737488355328) : Calls Try.prog 42 #[.pointer (some ⟨b, 0, none⟩)] w (TakesR w b (rV q).v (rVR q)) := by
  have hlt := h.lt
  have h0 := h.below ((Below.refl w.heap.size w).alloc (Nat.le_refl _) (.cells #[.string ⟨#[]⟩, .int .i64 0, .int .i64 0] 24)) hlt
  have v0 := VB.made w noVol 24
  have bx := (Below.refl w.heap.size w).alloc (Nat.le_refl _) (.cells #[.string ⟨#[]⟩, .int .i64 0, .int .i64 0] 24)
  have c1 := rdnum_q b q 1 _ h0 hs
  have z1 := rNumR_size q 1
  obtain ⟨lg, hlg⟩ : ∃ lg, rNum q 1 = lg := ⟨_, rfl⟩
  have hlg256 : lg < 256 := by rw [← hlg]; exact rNum_lt q 1
  have hV : Hid (rV q = ⟨(rTxt (rNumR q 1) 6).extract 0 (min lg (rTxt (rNumR q 1) 6).size), ((rNum (rTxtR (rNumR q 1) 6) 2 : Nat) : Int), ((rNum (rNumR (rTxtR (rNumR q 1) 6) 2) 1 : Nat) : Int)⟩) := Lib.hid (by rw [rV, rPad, hlg])
  have hVR : Hid (rVR q = rNumR (rNumR (rTxtR (rNumR q 1) 6) 2) 1) := Lib.hid rfl
  rw [hlg] at c1
  clear hlg
  generalize rNumR q 1 = q1 at *
  have z2 := rTxtR_size q1 6
  have hpz : (rTxt q1 6).size ≤ q1.s.size := txt_size _ _ _
  have cT := fun W hW => rdtxt_q b q1 6 W hW (by omega)
  generalize rTxtR q1 6 = q2 at *
  generalize rTxt q1 6 = pad at *
  have z3 := rNumR_size q2 2
  have cN2 := fun W hW => rdnum_q b q2 2 W hW (by omega)
  generalize hq3 : rNumR q2 2 = q3 at *
  have cN1 := fun W hW => rdnum_q b q3 1 W hW (by omega)
  generalize rNumR q3 1 = q4 at *
  generalize rNum q2 2 = sz at *
  generalize rNum q3 1 = rt at *
  clear hq3
  obtain ⟨m, hm⟩ : ∃ m, min lg pad.size = m := ⟨_, rfl⟩
  have hmin : min (lg : Int) (pad.size : Int) = (m : Int) := by omega
  have hmin' : min lg pad.size = m := hm
  have hml : m ≤ pad.size := by omega
  have hcut := fun W => to_run (P := Try.prog) (T := 9) Try.underlying9 pad m hml W
  have hmz : (m : Int) ≤ (pad.size : Int) := by omega
  rw [hm] at hV
  clear hm
  generalize pad.extract 0 m = nm at *
  obtain ⟨G, hG⟩ : ∃ G, w.heap.size = G := ⟨_, rfl⟩
  rw [hG] at v0
  go_enter Try.func42, Try.ntmps42
  go_wp2_with (fail)
  refine c1.mono ?_
  rintro e w1 ⟨rfl, r1⟩
  have v1 := v0.rd r1 (by omega)
  have R1 : RdTo w b q1.s q1.b w1 := (RdTo.below_after (RdAt.refl h) bx).trans r1
  try rw [hG]
  go_wp2_with (fail)
  refine (cT _ r1.r).mono ?_
  rintro e w2 ⟨rfl, r2⟩
  have v2 := v1.rd r2 (by omega)
  have R2 := R1.trans r2
  clear v0 v1 R1 r1 c1 cT h0 h
  go_wp2_with (fail)
  have r2d : RdAt w2.drew b q2.s q2.b := ⟨r2.r.c0, r2.r.c1, r2.r.f0, r2.r.f1, r2.r.lt⟩
  have v2d : VB w2.drew G noVol := ⟨v2.c0, v2.c1, v2.c2, v2.f0, v2.f1, v2.f2, v2.lt⟩
  have R2d : RdTo w b q2.s q2.b w2.drew := R2.below_after (Below.refl _ _).drew
  have hbG : G ≠ b := by omega
  clear v2 R2 r2
  go_region_with (first
    | (go_at_call 41
       refine (cN1 _ (RdTo.r r3)).mono ?_
       rintro e w4 ⟨rfl, r4⟩
       have v4 := v3.rd r4 hbG
       have R4 := R3.trans r4
       obtain ⟨k0, k1, k2, f0, f1, f2, _⟩ := v4)
    | (go_at_call 41
       refine (cN2 w2.drew r2d).mono ?_
       rintro e w3 ⟨rfl, r3⟩
       have v3 := v2d.rd r3 hbG
       have R3 := R2d.trans r3))
  all_goals
    go_wp2_with (fail)
    refine bodyPost_ret (res_vol (VB.set ⟨k0, k1, k2, f0, f1, f2, ‹_›⟩ ⟨nm, (sz : Int), (rt : Int)⟩) rfl) rfl ?_
    refine ⟨by rw [hV.out], ?_⟩
    rw [hVR.out]
    exact ((R4.setNew (by omega) (by omega) _).setNew (by omega) (by omega) _).setNew (by omega) (by omega) _
end Go.Proofs.Ytfmgoamgcjipkaa
