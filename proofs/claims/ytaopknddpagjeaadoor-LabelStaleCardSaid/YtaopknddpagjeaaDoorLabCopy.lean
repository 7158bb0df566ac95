/- label: the document's copied. -/
import Derived.Test.YtaopknddpagjeaaDoorLabBox
import Derived.Deep.Cut
namespace Go.Proofs.YtaopknddpagjeaaDoor
open Go.RowKit
set_option linter.unusedVariables false
set_option linter.unusedSimpArgs false
open Lb

theorem res_copied {tm : Array Value} {W : World} {b : Nat} {x : Lbl} {vs vb vc : Value} (h : LblBox W b x vs vb vc) (h2 : tm.getD 2 undef = .pointer (some ⟨b, 0, none⟩)) :
    (results Tryd.f56 tm).run Tryd.prog W = .ok (x.v vs vb vc) W := by
  have h2' : tm[2]?.getD undef = .pointer (some ⟨b, 0, none⟩) := by simpa using h2
  simp [results, Tryd.results56, go_sem, h2', h.a.c0, h.a.c1, h.a.c2, h.a.c3, h.a.c4, h.a.c5, h.a.c6, h.a.c7, h.a.c8, Lbl.v]
theorem icopy {w : World} {v : Value} {l : List Int} (h : Reads w v (l.map (.int .i64))) (hl : l.length ≤ 1000) :
    ∃ a d w', (Builtin.append_ #[24, 24] 24 #[.slice none 0 0, v]).run Tryd.prog w = .ok (.slice a l.length d) w' ∧ Own w' w.heap.size 3 (.slice a l.length d) (l.map (.int .i64)) ∧ Below w.heap.size w w' := by
  obtain ⟨ib, hi, hz0, hz1, hz2⟩ := info_parts Tryd.infoI
  obtain ⟨v', w', h1, h2, h3⟩ := Reads.copy_run (P := Tryd.prog) (T := 24) Tryd.underlying24 hi hz0 hz1 hz2 rfl h (fun x hx => by obtain ⟨y, _, rfl⟩ := List.mem_map.1 hx; rfl) (by rw [List.length_map]; omega) (by rw [List.length_map]; omega)
  obtain ⟨a, d, rfl⟩ := h2.isSlice
  rw [List.length_map] at h1 h2
  exact ⟨a, d, w', h1, h2, h3⟩
set_option maxRecDepth 100000 in
set_option maxHeartbeats 400000 in
theorem rcopied_any (x : Lbl) (vs vb vc : Value) (w : World) (h : LR w x vs vb vc) (h1 : x.st.length ≤ 1000) (h2 : x.bo.length ≤ 1000) (h3 : x.cu.length ≤ 1000) : Calls Tryd.prog 56 #[x.v vs vb vc] w (GivesO w x) := by
  unfold Lbl.v
  obtain ⟨p, hp⟩ : ∃ p, w.heap.size = p := ⟨_, rfl⟩
  have bw : Below p w ((w.alloc (.cells #[.int .i64 x.i, .int .i64 x.s, .int .i64 x.g, .int .i64 x.k, .int .i64 x.m, .int .i64 x.b, vs, vb, vc] 26)).alloc (.cells #[.int .i64 0, .int .i64 0, .int .i64 0, .int .i64 0, .int .i64 0, .int .i64 0, .slice none 0 0, .slice none 0 0, .slice none 0 0] 26)) := ((Below.refl _ _).alloc (by omega) _).alloc (by simp; omega) _
  have ba : Below (p + 1) (w.alloc (.cells #[.int .i64 x.i, .int .i64 x.s, .int .i64 x.g, .int .i64 x.k, .int .i64 x.m, .int .i64 x.b, vs, vb, vc] 26)) ((w.alloc (.cells #[.int .i64 x.i, .int .i64 x.s, .int .i64 x.g, .int .i64 x.k, .int .i64 x.m, .int .i64 x.b, vs, vb, vc] 26)).alloc (.cells #[.int .i64 0, .int .i64 0, .int .i64 0, .int .i64 0, .int .i64 0, .int .i64 0, .slice none 0 0, .slice none 0 0, .slice none 0 0] 26)) := (Below.refl _ _).alloc (by simp; omega) _
  have xa : LblBox (w.alloc (.cells #[.int .i64 x.i, .int .i64 x.s, .int .i64 x.g, .int .i64 x.k, .int .i64 x.m, .int .i64 x.b, vs, vb, vc] 26)) w.heap.size x vs vb vc := ⟨LblAt.made w x vs vb vc 26, fun o => frozen_of_row _ _ _ _ _ (heap_alloc_new _ _)⟩
  have xb := xa.below ba (by omega)
  have zb := LblBox.made (w.alloc (.cells #[.int .i64 x.i, .int .i64 x.s, .int .i64 x.g, .int .i64 x.k, .int .i64 x.m, .int .i64 x.b, vs, vb, vc] 26)) 26
  rw [show (w.alloc (.cells #[.int .i64 x.i, .int .i64 x.s, .int .i64 x.g, .int .i64 x.k, .int .i64 x.m, .int .i64 x.b, vs, vb, vc] 26)).heap.size = p + 1 by simp [hp]] at zb
  rw [hp] at xb
  clear ba xa
  go_enter Tryd.func56, Tryd.ntmps56
  go_upto_region 4 with (fail)
  generalize (w.alloc (.cells #[.int .i64 x.i, .int .i64 x.s, .int .i64 x.g, .int .i64 x.k, .int .i64 x.m, .int .i64 x.b, vs, vb, vc] 26)).alloc (.cells #[.int .i64 0, .int .i64 0, .int .i64 0, .int .i64 0, .int .i64 0, .int .i64 0, .slice none 0 0, .slice none 0 0, .slice none 0 0] 26) = wb at *
  have s1 : p + 1 < wb.heap.size := zb.a.lt
  obtain ⟨a1, d1, w1, hap1, o1, b1⟩ := icopy (h.s.below (by rw [hp]; exact bw)) h1
  have x1 := xb.below b1 (by omega)
  have B1 := (bw.trans (b1.mono (by omega))).setCell (p := ⟨p, 6, none⟩) (Nat.le_refl _) (.slice a1 x.st.length d1)
  have y1 := x1.row6 x.st (.slice a1 x.st.length d1)
  obtain ⟨a2, d2, w2, hap2, o2, b2⟩ := icopy (h.b.below (by rw [hp]; exact B1)) h2
  have x2 := y1.below b2 y1.a.lt
  have B2 := (B1.trans (b2.mono (by have := y1.a.lt; omega))).setCell (p := ⟨p, 7, none⟩) (Nat.le_refl _) (.slice a2 x.bo.length d2)
  have y2 := x2.row7 x.bo (.slice a2 x.bo.length d2)
  obtain ⟨a3, d3, w3, hap3, o3, b3⟩ := icopy (h.c.below (by rw [hp]; exact B2)) h3
  have x3 := y2.below b3 y2.a.lt
  have B3 := (B2.trans (b3.mono (by have := y2.a.lt; omega))).setCell (p := ⟨p, 8, none⟩) (Nat.le_refl _) (.slice a3 x.cu.length d3)
  have y3 := x3.row8 x.cu (.slice a3 x.cu.length d3)
  have K1 : KP p wb (w1.setCell ⟨p, 6, none⟩ (.slice a1 x.st.length d1)) := (KP.below b1).set _ _
  have K2 : KP p w1 (w2.setCell ⟨p, 7, none⟩ (.slice a2 x.bo.length d2)) := (((KP.refl p w1).set 6 (.slice a1 x.st.length d1)).trans (KP.below b2)).set _ _
  have K3 : KP p w2 (w3.setCell ⟨p, 8, none⟩ (.slice a3 x.cu.length d3)) := (((KP.refl p w2).set 7 (.slice a2 x.bo.length d2)).trans (KP.below b3)).set _ _
  have K23 : KP p (w2.setCell ⟨p, 7, none⟩ (.slice a2 x.bo.length d2)) (w3.setCell ⟨p, 8, none⟩ (.slice a3 x.cu.length d3)) := (KP.below b3).set _ _
  have K12 : KP p (w1.setCell ⟨p, 6, none⟩ (.slice a1 x.st.length d1)) (w2.setCell ⟨p, 7, none⟩ (.slice a2 x.bo.length d2)) := (KP.below b2).set _ _
  have z3 := zb.heap (((K1.trans K12).trans K23).2 (p + 1) (by omega) (by omega)) ((K1.trans K12).trans K23).1
  have Of : O3 (w3.setCell ⟨p, 8, none⟩ (.slice a3 x.cu.length d3)) (p + 2) x (.slice a1 x.st.length d1) (.slice a2 x.bo.length d2) (.slice a3 x.cu.length d3) := by
    rw [World.size_setCell] at o2 o3
    have t1 := b1.size
    have t2 := b2.size
    have t3 := b3.size
    rw [World.size_setCell] at t2 t3
    exact ⟨((K2.trans K23).own o1 (by omega)).mono (by omega), (K3.own o2 (by omega)).mono (by omega), ((KP.refl p w3).set 8 (.slice a3 x.cu.length d3)).own o3 (by omega) |>.mono (by omega), Apart.lt o1 o2 (Nat.le_refl _), Apart.lt o1 o3 (by omega), Apart.lt o2 o3 (Nat.le_refl _)⟩
  have e6 := xb.a.c6
  have i6 := x1.a.c6
  have i7 := x1.a.c7
  have f6 := x1.f 6
  have j7 := x2.a.c7
  have j8 := x2.a.c8
  have f7 := x2.f 7
  have k8 := x3.a.c8
  have f8 := x3.f 8
  replace y3 : Hid (LblBox (w3.setCell ⟨p, 8, none⟩ (.slice a3 x.cu.length d3)) p x (.slice a1 x.st.length d1) (.slice a2 x.bo.length d2) (.slice a3 x.cu.length d3)) := Lib.hid y3
  replace z3 := Lib.hid z3
  replace Of := Lib.hid Of
  replace B3 := Lib.hid B3
  clear K1 K2 K3 K12 K23 o1 o2 o3 b1 b2 b3 B1 B2 y1 y2 x1 x2 x3 xb zb bw h
  have y3' := y3.out
  have z3' := z3.out
  have ⟨g0, g1, g2, g3, g4, g5, g6, g7, g8, glt⟩ := y3'.a
  have ⟨t0, t1, t2, t3, t4, t5, t6, t7, t8, tlt⟩ := z3'.a
  have u0 := z3'.f 0
  have u1 := z3'.f 1
  have u2 := z3'.f 2
  have u3 := z3'.f 3
  have u4 := z3'.f 4
  have u5 := z3'.f 5
  have u6 := z3'.f 6
  have u7 := z3'.f 7
  have u8 := z3'.f 8
  clear y3' z3'
  go_wp2_with (at_builtin; first | refine wpList_append_run (o := ⟨some 9, _, _, _, _, _⟩) hap1 _ _ rfl rfl rfl rfl rfl ?_ | refine wpList_append_run (o := ⟨some 14, _, _, _, _, _⟩) hap2 _ _ rfl rfl rfl rfl rfl ?_ | refine wpList_append_run (o := ⟨some 19, _, _, _, _, _⟩) hap3 _ _ rfl rfl rfl rfl rfl ?_)
  refine bodyPost_ret (res_copied (z3.out.put x (.slice a1 x.st.length d1) (.slice a2 x.bo.length d2) (.slice a3 x.cu.length d3)) rfl) rfl ?_
  refine ⟨_, _, _, rfl, (Of.out.heap fun k hk _ => setL_heap _ _ _ _ _ _ _ (by omega)).mono (by rw [hp]; omega), ?_⟩
  rw [hp]
  exact setL_below B3.out (by omega) x (.slice a1 x.st.length d1) (.slice a2 x.bo.length d2) (.slice a3 x.cu.length d3)
end Go.Proofs.YtaopknddpagjeaaDoor
