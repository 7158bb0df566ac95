/- label: raw labels made right, walked. -/
import Derived.Test.YtaopknddpagjeaaDoorLabBox
import Derived.Deep.RegionHeld3
import Derived.Deep.RegionLaw
import Derived.IntWalk
import Derived.Deep.Cut
import Derived.Test.YtaopknddpagjeaaDoorLabWalk6
import Derived.Deep.CutRange
import Derived.RegionTactic
namespace Go.Proofs.YtaopknddpagjeaaDoor
open Go.RowKit
set_option linter.unusedVariables false
set_option linter.unusedSimpArgs false
open Lb

/-- Which of n things a raw number speaks of. -/
def pk (c n : Int) : Int := (if c < 0 then -(c + 1) else c) % n
theorem pk_rng (c n : Int) (h : 1 ≤ n) : 0 ≤ pk c n ∧ pk c n < n := by
  unfold pk; exact ⟨Int.emod_nonneg _ (by omega), Int.emod_lt_of_pos _ (by omega)⟩
theorem pick7_any (c n : Int) (w : World) (h1 : -9223372036854775808 ≤ c) (h2 : c ≤ 9223372036854775807) (h3 : 1 ≤ n) (h4 : n ≤ 9223372036854775807) :
    Calls Tryd.prog 65 #[.int .i64 c, .int .i64 n] w fun e w' => e = .returned (.int .i64 (pk c n)) ∧ w = w' := by
  by_cases hc : c < 0
  · have hp : Hid (pk c n = -((c + 1).tmod n)) := Lib.hid (by unfold pk; rw [if_pos hc, ← Int.neg_tmod, Int.tmod_eq_emod_of_nonneg (by omega)])
    go_enter Tryd.func65, Tryd.ntmps65
    go_wp2
    go_ret
    exact ⟨by rw [hp.out]; rfl, rfl⟩
  · have hp : Hid (pk c n = c % n) := Lib.hid (by unfold pk; rw [if_neg hc])
    go_enter Tryd.func65, Tryd.ntmps65
    go_wp2
    go_ret
    exact ⟨by rw [hp.out]; rfl, rfl⟩

def fK (K : Int) : Int := 1 + pk K 4
def fM (M : Int) : Int := 1 + pk M 3
def fB (B : Int) : Int := 8 + pk B 193
theorem fit_right (K M B : Int) : gR (fK K) (fM M) (fB B) = true := by
  have h1 := pk_rng K 4 (by omega); have h2 := pk_rng M 3 (by omega); have h3 := pk_rng B 193 (by omega)
  exact gR_mk (by unfold fK fM fB; omega)
theorem pick10_any (c n : Int) (w : World) (h1 : -9223372036854775808 ≤ c) (h2 : c ≤ 9223372036854775807) (h3 : 1 ≤ n) (h4 : n ≤ 9223372036854775807) :
    Calls Tryd.prog 20 #[.int .i64 c, .int .i64 n] w fun e w' => e = .returned (.int .i64 (pk c n)) ∧ w = w' := by
  by_cases hc : c < 0
  · have hp : Hid (pk c n = -((c + 1).tmod n)) := Lib.hid (by unfold pk; rw [if_pos hc, ← Int.neg_tmod, Int.tmod_eq_emod_of_nonneg (by omega)])
    go_enter Tryd.func20, Tryd.ntmps20
    go_wp2
    go_ret
    exact ⟨by rw [hp.out]; rfl, rfl⟩
  · have hp : Hid (pk c n = c % n) := Lib.hid (by unfold pk; rw [if_neg hc])
    go_enter Tryd.func20, Tryd.ntmps20
    go_wp2
    go_ret
    exact ⟨by rw [hp.out]; rfl, rfl⟩
set_option maxRecDepth 100000 in
set_option maxHeartbeats 600000 in
theorem fit7_any (K M B : Int) (w : World) (k1 : -9223372036854775808 ≤ K) (k2 : K ≤ 9223372036854775807) (m1 : -9223372036854775808 ≤ M) (m2 : M ≤ 9223372036854775807) (b1 : -9223372036854775808 ≤ B) (b2 : B ≤ 9223372036854775807) :
    Calls Tryd.prog 51 #[.agg #[.int .i64 K, .int .i64 M, .int .i64 B]] w fun e w' => e = .returned (.agg #[.int .i64 (fK K), .int .i64 (fM M), .int .i64 (fB B)]) ∧ Below w.heap.size w w' := by
  have h1 := pk_rng K 4 (by omega); have h2 := pk_rng M 3 (by omega); have h3 := pk_rng B 193 (by omega)
  have v1 : IntKind.i64.wrap (1 + pk K 4) = fK K := IntWalk.i64_in _ (by omega)
  have v2 : IntKind.i64.wrap (1 + pk M 3) = fM M := IntWalk.i64_in _ (by omega)
  have v3 : IntKind.i64.wrap (8 + pk B 193) = fB B := IntWalk.i64_in _ (by omega)
  have hB0 : Below w.heap.size w ((w.alloc (.cells #[.int .i64 K, .int .i64 M, .int .i64 B] 23)).alloc (.cells #[.int .i64 0, .int .i64 0, .int .i64 0] 23)) := ((Below.refl _ _).alloc (Nat.le_refl _) _).alloc (by simp) _
  have hf0 : ∀ i, ((w.alloc (.cells #[.int .i64 K, .int .i64 M, .int .i64 B] 23)).alloc (.cells #[.int .i64 0, .int .i64 0, .int .i64 0] 23)).frozen? ⟨w.heap.size + 1, i, none⟩ = false := fun i => by simp
  go_enter Tryd.func51, Tryd.ntmps51
  go_wp2
  go_region_held3 (fun w' => w'.cell? ⟨w.heap.size, 0, none⟩ = some (.int .i64 K) ∧ w'.cell? ⟨w.heap.size, 1, none⟩ = some (.int .i64 M) ∧ w'.cell? ⟨w.heap.size, 2, none⟩ = some (.int .i64 B)) (first | (simp; done) | go_keep)
    (first | (go_at_call 65; refine (pick7_any _ _ _ (by omega) (by omega) (by omega) (by omega)).mono ?_; rintro e w' ⟨rfl, rfl⟩))
  all_goals go_wp2
  refine bodyPost_ret (v := .agg #[.int .i64 (fK K), .int .i64 (fM M), .int .i64 (fB B)]) ?_ rfl ⟨rfl, ?_⟩
  · simp only [results, Tryd.results51]
    simp [go_sem, v1, v2, v3]
  · exact (((Below.refl _ _).alloc (Nat.le_refl _) _).alloc (by simp) _).drew
/-- A raw list's number at a place. -/
def atN (l : List Int) (i : Nat) (most : Int) : Int := if i < l.length then pk (l.getD i 0) (most + 1) else 0
theorem atN_rng (l : List Int) (i : Nat) (most : Int) (h : 0 ≤ most) : 0 ≤ atN l i most ∧ atN l i most ≤ most := by
  unfold atN; split
  · have := pk_rng (l.getD i 0) (most + 1) (by omega); omega
  · omega
theorem at_any (v : Value) (l : List Int) (i : Nat) (most : Int) (w : World) (hR : Reads w v (l.map (.int .i64))) (hI : ∀ n ∈ l, -9223372036854775808 ≤ n ∧ n ≤ 9223372036854775807) (hl : l.length ≤ 140737488355328) (hi : i ≤ 1000) (h0 : 0 ≤ most) (h1 : most ≤ 1099511627776) :
    Calls Tryd.prog 52 #[v, .int .i64 (i : Int), .int .i64 most] w fun e w' => e = .returned (.int .i64 (atN l i most)) ∧ w = w' := by
  obtain ⟨a, cap, rfl, hc⟩ := hR.nums
  by_cases h : i < l.length
  · obtain ⟨cb, co, rfl, hcb, hcell⟩ := hc i h
    have hp : Hid (atN l i most = pk (l.getD i 0) (most + 1)) := Lib.hid (by unfold atN; rw [if_pos h])
    have hm : l.getD i 0 ∈ l := by rw [getD_get h]; exact List.getElem_mem h
    have hb := hI _ hm
    have y1 : (i : Int) < (l.length : Int) := by omega
    have y2 : ¬ ((i : Int) ≥ (l.length : Int)) := by omega
    clear hc hI hR
    generalize l.getD i 0 = x at *
    have cP := fun W => pick10_any x (most + 1) W hb.1 hb.2 (by omega) (by omega)
    go_enter Tryd.func52, Tryd.ntmps52
    go_wp2_with (fail)
    refine (cP _).mono ?_
    rintro e w' ⟨rfl, rfl⟩
    go_wp2_with (fail)
    go_ret
    exact ⟨by rw [hp.out]; rfl, rfl⟩
  · have hp : Hid (atN l i most = 0) := Lib.hid (by unfold atN; rw [if_neg h])
    have y2 : (i : Int) ≥ (l.length : Int) := by omega
    clear hc hI hR
    go_enter Tryd.func52, Tryd.ntmps52
    go_wp2_with (fail)
    go_ret
    exact ⟨by rw [hp.out]; rfl, rfl⟩
/-- How many slots. -/
def fN (r : Lbl) : Nat := (fK r.k + fM r.m).toNat
def fG (r : Lbl) : Int := 1 + pk r.g 1099511627776
def fT (r : Lbl) : Int := gStripes (fK r.k) (fM r.m) (fB r.b)
def fitTo (r : Lbl) (k : Nat) : Lbl := ⟨1 + pk r.i 65535, pk r.s (fK r.k + fM r.m), fG r, fK r.k, fM r.m, fB r.b, (List.range k).map fun i => atN r.st i 2, (List.range k).map fun i => atN r.bo i (fG r), (List.range k).map fun i => atN r.cu i (fT r)⟩
def fitL (r : Lbl) : Lbl := fitTo r (fN r)
theorem fN_rng (r : Lbl) : ((fN r : Nat) : Int) = fK r.k + fM r.m ∧ 2 ≤ fN r ∧ fN r ≤ 7 := by
  have h1 := pk_rng r.k 4 (by omega)
  have h2 := pk_rng r.m 3 (by omega)
  unfold fN fK fM
  omega
theorem fG_rng (r : Lbl) : 1 ≤ fG r ∧ fG r ≤ 1099511627776 := by have := pk_rng r.g 1099511627776 (by omega); unfold fG; omega
theorem fT_rng (r : Lbl) : 1 ≤ fT r ∧ fT r ≤ 200 := by
  have hg := fit_right r.k r.m r.b
  obtain ⟨h1, h2, h3, h4, h5, h6⟩ := gR_true hg
  have := div_rng ⟨h1, h2⟩ ⟨h5, h6⟩
  unfold fT gStripes
  rw [hg, if_pos rfl]
  omega
theorem fit_ok (r : Lbl) : rightB (fitL r) = true := by
  have hn := fN_rng r
  have hg := fG_rng r
  have ht := fT_rng r
  have hs : nS (fitL r) = ((fN r : Nat) : Int) := by
    show gSlots (fK r.k) (fM r.m) (fB r.b) = _
    unfold gSlots; rw [fit_right, if_pos rfl, hn.1]
  have hT : nT (fitL r) = fT r := rfl
  have hi := pk_rng r.i 65535 (by omega)
  have hsl := pk_rng r.s (fK r.k + fM r.m) (by omega)
  refine (right_iff _).2 ⟨?_, ?_, hg, ?_, ?_, ?_, fun n hm => ?_, fun n hm => ?_, fun n hm => ?_⟩
  · show 1 ≤ 1 + pk r.i 65535 ∧ 1 + pk r.i 65535 ≤ 65535; omega
  · rw [hs]; show 0 ≤ pk r.s _ ∧ pk r.s _ < _; omega
  · rw [hs]; simp [fitL, fitTo]
  · rw [hs]; simp [fitL, fitTo]
  · rw [hs]; simp [fitL, fitTo]
  · obtain ⟨i, _, rfl⟩ := List.mem_map.1 hm; exact atN_rng _ _ _ (by omega)
  · obtain ⟨i, _, rfl⟩ := List.mem_map.1 hm; exact atN_rng _ _ _ (by omega)
  · rw [hT]; obtain ⟨i, _, rfl⟩ := List.mem_map.1 hm; exact atN_rng _ _ _ (by omega)
theorem fitTo_len (r : Lbl) (k : Nat) : (fitTo r k).st.length = k ∧ (fitTo r k).bo.length = k ∧ (fitTo r k).cu.length = k := by simp [fitTo]
theorem fitTo_step (r : Lbl) (k : Nat) : (fitTo r (k + 1)).st = (fitTo r k).st ++ [atN r.st k 2] ∧ (fitTo r (k + 1)).bo = (fitTo r k).bo ++ [atN r.bo k (fG r)] ∧ (fitTo r (k + 1)).cu = (fitTo r k).cu ++ [atN r.cu k (fT r)] := by
  simp [fitTo, List.range_succ]
open Go.RowKit
set_option linter.unusedVariables false
set_option linter.unusedSimpArgs false
open Lb

theorem res_fit {tm : Array Value} {W : World} {b : Nat} {x : Lbl} {vs vb vc : Value} (h : LblBox W b x vs vb vc) (h2 : tm.getD 2 undef = .pointer (some ⟨b, 0, none⟩)) :
    (results Tryd.f19 tm).run Tryd.prog W = .ok (x.v vs vb vc) W := by
  have h2' : tm[2]?.getD undef = .pointer (some ⟨b, 0, none⟩) := by simpa using h2
  simp [results, Tryd.results19, go_sem, h2', h.a.c0, h.a.c1, h.a.c2, h.a.c3, h.a.c4, h.a.c5, h.a.c6, h.a.c7, h.a.c8, Lbl.v]
/-- A geometry's box. -/
structure GeoAt (w : World) (p : Nat) (K M B : Int) : Prop where
  k : w.cell? ⟨p, 0, none⟩ = some (.int .i64 K)
  m : w.cell? ⟨p, 1, none⟩ = some (.int .i64 M)
  b : w.cell? ⟨p, 2, none⟩ = some (.int .i64 B)
  lt : p < w.heap.size
theorem GeoAt.below {C : Nat} {w w' : World} {p : Nat} {K M B : Int} (h : GeoAt w p K M B) (hb : Below C w w') (hC : p < C) : GeoAt w' p K M B :=
  ⟨(hb.cell (p := ⟨p, 0, none⟩) hC).trans h.k, (hb.cell (p := ⟨p, 1, none⟩) hC).trans h.m, (hb.cell (p := ⟨p, 2, none⟩) hC).trans h.b, Nat.lt_of_lt_of_le h.lt hb.size⟩
theorem LblBox.drew {w : World} {p : Nat} {x : Lbl} {va vb vc : Value} (h : LblBox w p x va vb vc) : LblBox w.drew p x va vb vc := ⟨⟨h.a.c0, h.a.c1, h.a.c2, h.a.c3, h.a.c4, h.a.c5, h.a.c6, h.a.c7, h.a.c8, h.a.lt⟩, h.f⟩
theorem O3.drew {w : World} {B : Nat} {x : Lbl} {va vb vc : Value} (h : O3 w B x va vb vc) : O3 w.drew B x va vb vc := ⟨h.a.drew, h.b.drew, h.c.drew, h.ab, h.ac, h.bc⟩
structure FIn (w : World) (p g q : Nat) (r : Lbl) (vs vb vc : Value) (k : Nat) (wr : World) (va' vb' vc' : Value) : Prop where
  rr : LblAt wr p r vs vb vc
  e : GeoAt wr g (fK r.k) (fM r.m) (fB r.b)
  x : LblBox wr q (fitTo r k) va' vb' vc'
  o : O3 wr (q + 1) (fitTo r k) va' vb' vc'
  z : LblBox wr (p + 1) noLbl (.slice none 0 0) (.slice none 0 0) (.slice none 0 0)
  l : LR wr r vs vb vc
  b : Below p w wr
set_option maxRecDepth 100000 in
set_option maxHeartbeats 1500000 in
theorem fit10_any (r : Lbl) (vs vb vc : Value) (w : World) (hx : LR w r vs vb vc) (hi : -9223372036854775808 ≤ r.i ∧ r.i ≤ 9223372036854775807) (hs : -9223372036854775808 ≤ r.s ∧ r.s ≤ 9223372036854775807) (hg : -9223372036854775808 ≤ r.g ∧ r.g ≤ 9223372036854775807) (hk : -9223372036854775808 ≤ r.k ∧ r.k ≤ 9223372036854775807) (hm : -9223372036854775808 ≤ r.m ∧ r.m ≤ 9223372036854775807) (hb : -9223372036854775808 ≤ r.b ∧ r.b ≤ 9223372036854775807)
    (h1 : ∀ n ∈ r.st, -9223372036854775808 ≤ n ∧ n ≤ 9223372036854775807) (h2 : ∀ n ∈ r.bo, -9223372036854775808 ≤ n ∧ n ≤ 9223372036854775807) (h3 : ∀ n ∈ r.cu, -9223372036854775808 ≤ n ∧ n ≤ 9223372036854775807) :
    Calls Tryd.prog 19 #[r.v vs vb vc] w (GivesO w (fitL r)) := by
  obtain ⟨p, hp⟩ : ∃ p, w.heap.size = p := ⟨_, rfl⟩
  have A0 := (LblAt.made w r vs vb vc 36).below (B := w.heap.size + 1) ((Below.refl _ _).alloc (by simp) (.cells #[.int .i64 0, .int .i64 0, .int .i64 0, .int .i64 0, .int .i64 0, .int .i64 0, .slice none 0 0, .slice none 0 0, .slice none 0 0] 26)) (by omega)
  have Z0 := LblBox.made (w.alloc (.cells #[.int .i64 r.i, .int .i64 r.s, .int .i64 r.g, .int .i64 r.k, .int .i64 r.m, .int .i64 r.b, vs, vb, vc] 36)) 26
  have B0 : Below p w ((w.alloc (.cells #[.int .i64 r.i, .int .i64 r.s, .int .i64 r.g, .int .i64 r.k, .int .i64 r.m, .int .i64 r.b, vs, vb, vc] 36)).alloc (.cells #[.int .i64 0, .int .i64 0, .int .i64 0, .int .i64 0, .int .i64 0, .int .i64 0, .slice none 0 0, .slice none 0 0, .slice none 0 0] 26)) := ((Below.refl _ _).alloc (by omega) _).alloc (by simp; omega) _
  rw [show (w.alloc (.cells #[.int .i64 r.i, .int .i64 r.s, .int .i64 r.g, .int .i64 r.k, .int .i64 r.m, .int .i64 r.b, vs, vb, vc] 36)).heap.size = p + 1 by simp [hp]] at Z0
  rw [hp] at A0
  unfold Lbl.v
  go_enter Tryd.func19, Tryd.ntmps19
  go_upto_region 1 with (fail)
  generalize ((w.alloc (.cells #[.int .i64 r.i, .int .i64 r.s, .int .i64 r.g, .int .i64 r.k, .int .i64 r.m, .int .i64 r.b, vs, vb, vc] 36)).alloc (.cells #[.int .i64 0, .int .i64 0, .int .i64 0, .int .i64 0, .int .i64 0, .int .i64 0, .slice none 0 0, .slice none 0 0, .slice none 0 0] 26)) = w0 at *
  have L0 := hx.below (show Below w.heap.size w w0 by rw [hp]; exact B0)
  have hN := fN_rng r
  have hG := fG_rng r
  have hT := fT_rng r
  have gk := pk_rng r.k 4 (by omega)
  have gm := pk_rng r.m 3 (by omega)
  have gb := pk_rng r.b 193 (by omega)
  have rK : 1 ≤ fK r.k ∧ fK r.k ≤ 4 := by unfold fK; omega
  have rM : 1 ≤ fM r.m ∧ fM r.m ≤ 3 := by unfold fM; omega
  have rB : 8 ≤ fB r.b ∧ fB r.b ≤ 200 := by unfold fB; omega
  have gi := pk_rng r.i 65535 (by omega)
  have gs := pk_rng r.s (fK r.k + fM r.m) (by omega)
  have gg := pk_rng r.g 1099511627776 (by omega)
  have cF := fit7_any r.k r.m r.b w0 hk.1 hk.2 hm.1 hm.2 hb.1 hb.2
  obtain ⟨K, hK⟩ : ∃ K, fK r.k = K := ⟨_, rfl⟩
  obtain ⟨M, hM⟩ : ∃ M, fM r.m = M := ⟨_, rfl⟩
  obtain ⟨C, hC⟩ : ∃ C, fB r.b = C := ⟨_, rfl⟩
  rw [hK, hM, hC] at cF
  rw [hK] at rK hN gs
  rw [hM] at rM hN gs
  rw [hC] at rB
  have a3 := A0.c3
  have a4 := A0.c4
  have a5 := A0.c5
  replace hK := Lib.hid hK
  replace hM := Lib.hid hM
  replace hC := Lib.hid hC
  replace hp := Lib.hid hp
  obtain ⟨N, hNn⟩ : ∃ N, fN r = N := ⟨_, rfl⟩
  rw [hNn] at hN
  have hNh := Lib.hid hN.1
  have N2 := hN.2.1
  have N7 := hN.2.2
  clear hN
  replace hNn := Lib.hid hNn
  go_wp2_with (fail)
  refine cF.mono ?_
  rintro e w1 ⟨rfl, b1⟩
  have A1 := A0.below b1 A0.lt
  have Z1 := Z0.below b1 Z0.a.lt
  have L1 := L0.below b1
  have B1 := B0.trans (b1.mono (by have := A0.lt; omega))
  clear a3 a4 a5 A0 Z0 L0 B0 b1 cF
  have bk : Below w1.heap.size w1 (w1.alloc (.cells #[.int .i64 K, .int .i64 M, .int .i64 C] 23)) := (Below.refl _ _).alloc (Nat.le_refl _) _
  have G2 : GeoAt (w1.alloc (.cells #[.int .i64 K, .int .i64 M, .int .i64 C] 23)) w1.heap.size K M C := ⟨by rw [World.cell?_alloc_mark]; rfl, by rw [World.cell?_alloc_mark]; rfl, by rw [World.cell?_alloc_mark]; rfl, by simp⟩
  go_upto_region 3 with (fail)
  have A2 := A1.below bk A1.lt
  have Z2 := Z1.below bk Z1.a.lt
  have L2 := L1.below bk
  have B2 := B1.trans (bk.mono (by have := A1.lt; omega))
  have lpg : p + 1 < w1.heap.size := Z1.a.lt
  clear A1 Z1 L1 B1 bk
  generalize w1.alloc (.cells #[.int .i64 K, .int .i64 M, .int .i64 C] 23) = w2 at *
  obtain ⟨g, hgg⟩ : ∃ g, w1.heap.size = g := ⟨_, rfl⟩
  rw [hgg] at G2 lpg ⊢
  clear hgg
  rw [← hNh.out]
  rw [← hNh.out] at gs
  have v1 : IntKind.i64.wrap (1 + pk r.i 65535) = 1 + pk r.i 65535 := IntWalk.i64_in _ (by omega)
  have v2 : IntKind.i64.wrap (1 + pk r.g 1099511627776) = 1 + pk r.g 1099511627776 := IntWalk.i64_in _ (by omega)
  have a0 := A2.c0
  have a1 := A2.c1
  have a2 := A2.c2
  have d0 := G2.k
  have d1 := G2.m
  have d2 := G2.b
  have la := A2.lt
  have lg := G2.lt
  have f0 : w2.drew.cell? ⟨p, 0, none⟩ = some (.int .i64 r.i) ∧ w2.drew.cell? ⟨p, 1, none⟩ = some (.int .i64 r.s) ∧ w2.drew.cell? ⟨p, 2, none⟩ = some (.int .i64 r.g) ∧ w2.drew.cell? ⟨g, 0, none⟩ = some (.int .i64 K) ∧ w2.drew.cell? ⟨g, 1, none⟩ = some (.int .i64 M) ∧ w2.drew.cell? ⟨g, 2, none⟩ = some (.int .i64 C) := ⟨a0, a1, a2, d0, d1, d2⟩
  go_cut [5] from 15 to 28 (fun t wx => t = .pointer (some ⟨w2.heap.size, 0, none⟩) ∧ wx = (w2.alloc (.cells #[.int .i64 (1 + pk r.i 65535), .int .i64 (pk r.s (N : Int)), .int .i64 (1 + pk r.g 1099511627776), .int .i64 K, .int .i64 M, .int .i64 C, .slice none 0 0, .slice none 0 0, .slice none 0 0] 26)).drew)
  case first =>
    go_region_held3 (fun W => W.cell? ⟨p, 0, none⟩ = some (.int .i64 r.i) ∧ W.cell? ⟨p, 1, none⟩ = some (.int .i64 r.s) ∧ W.cell? ⟨p, 2, none⟩ = some (.int .i64 r.g) ∧ W.cell? ⟨g, 0, none⟩ = some (.int .i64 K) ∧ W.cell? ⟨g, 1, none⟩ = some (.int .i64 M) ∧ W.cell? ⟨g, 2, none⟩ = some (.int .i64 C)) (first | exact f0 | go_keep) (first | (go_at_call 20; refine (pick10_any _ _ _ (by omega) (by omega) (by omega) (by omega)).mono ?_; rintro e w' ⟨rfl, rfl⟩))
    all_goals (go_wp2_with (fail); go_meet; exact ⟨rfl, rfl⟩)
  case rest =>
  obtain ⟨rfl, rfl⟩ := hcut
  clear f0 a0 a1 a2 d0 d1 d2 v1 v2
  have ez : fitTo r 0 = ⟨1 + pk r.i 65535, pk r.s (N : Int), 1 + pk r.g 1099511627776, K, M, C, [], [], []⟩ := by
    unfold fitTo fG; rw [hK.out, hM.out, hC.out, ← hNh.out]; rfl
  have Yq : LblBox (w2.alloc (.cells #[.int .i64 (1 + pk r.i 65535), .int .i64 (pk r.s (N : Int)), .int .i64 (1 + pk r.g 1099511627776), .int .i64 K, .int .i64 M, .int .i64 C, .slice none 0 0, .slice none 0 0, .slice none 0 0] 26)).drew w2.heap.size (fitTo r 0) (.slice none 0 0) (.slice none 0 0) (.slice none 0 0) := by
    rw [ez]
    have t := LblAt.made w2 ⟨1 + pk r.i 65535, pk r.s (N : Int), 1 + pk r.g 1099511627776, K, M, C, [], [], []⟩ (.slice none 0 0) (.slice none 0 0) (.slice none 0 0) 26
    exact ⟨⟨t.c0, t.c1, t.c2, t.c3, t.c4, t.c5, t.c6, t.c7, t.c8, t.lt⟩, fun o => frozen_of_row (w2.alloc (.cells #[.int .i64 (1 + pk r.i 65535), .int .i64 (pk r.s (N : Int)), .int .i64 (1 + pk r.g 1099511627776), .int .i64 K, .int .i64 M, .int .i64 C, .slice none 0 0, .slice none 0 0, .slice none 0 0] 26)) _ _ _ _ (heap_alloc_new _ _)⟩
  have bk : Below w2.heap.size w2 (w2.alloc (.cells #[.int .i64 (1 + pk r.i 65535), .int .i64 (pk r.s (N : Int)), .int .i64 (1 + pk r.g 1099511627776), .int .i64 K, .int .i64 M, .int .i64 C, .slice none 0 0, .slice none 0 0, .slice none 0 0] 26)).drew := ((Below.refl _ _).alloc (Nat.le_refl _) _).drew
  have hI0 : Hid (FIn w p g w2.heap.size r vs vb vc 0 (w2.alloc (.cells #[.int .i64 (1 + pk r.i 65535), .int .i64 (pk r.s (N : Int)), .int .i64 (1 + pk r.g 1099511627776), .int .i64 K, .int .i64 M, .int .i64 C, .slice none 0 0, .slice none 0 0, .slice none 0 0] 26)).drew (.slice none 0 0) (.slice none 0 0) (.slice none 0 0)) := Lib.hid ⟨A2.below bk A2.lt, (by rw [hK.out, hM.out, hC.out]; exact G2.below bk G2.lt), Yq, O3.nil _ _ _ rfl rfl rfl, Z2.below bk Z2.a.lt, L2.below bk, B2.trans (bk.mono (by omega))⟩
  generalize (w2.alloc (.cells #[.int .i64 (1 + pk r.i 65535), .int .i64 (pk r.s (N : Int)), .int .i64 (1 + pk r.g 1099511627776), .int .i64 K, .int .i64 M, .int .i64 C, .slice none 0 0, .slice none 0 0, .slice none 0 0] 26)).drew = w3 at *
  obtain ⟨q, hq⟩ : ∃ q, w2.heap.size = q := ⟨_, rfl⟩
  rw [hq] at hI0 lg ⊢
  clear ez Yq bk A2 G2 Z2 L2 B2 la hq
  have cT : ∀ W, Calls Tryd.prog 48 #[.agg #[.int .i64 K, .int .i64 M, .int .i64 C]] W fun e w' => e = .returned (.int .i64 (fT r)) ∧ Below W.heap.size W w' := fun W => by
    have := rstripes_any K M C W
    rw [show gStripes K M C = fT r by unfold fT; rw [hK.out, hM.out, hC.out]] at this
    exact this
  replace cT := Lib.hid cT
  replace h1 := Lib.hid h1
  replace h2 := Lib.hid h2
  replace h3 := Lib.hid h3
  go_wp2_with (fail)
  go_loopw [6] (fun t wr => ∃ k : Nat, k ≤ N ∧ t = .int .i64 (k : Int) ∧ ∃ va vb' vc', FIn w p g q r vs vb vc k wr va vb' vc') (fun t _ => N - (intOf t).toNat)
  case atStart => exact ⟨0, by omega, rfl, _, _, _, hI0.out⟩
  case round =>
    obtain ⟨k, hk, rfl, va, vb', vc', hI⟩ := hrel
    rename World => wr
    clear hI0
    obtain ⟨r0, e0, x0, o0, z0, l0, b0⟩ := hI
    by_cases hlt : k < N
    · have y1 : (k : Int) < (N : Int) := by omega
      have hst := Lib.hid (fitTo_step r k)
      have hln := Lib.hid (fitTo_len r k)
      rw [hK.out, hM.out, hC.out] at e0
      obtain ⟨A, cp, u0, hap, yy, x1, o1, bb⟩ := push6 x0.drew o0.drew (atN r.st k 2) (by rw [hln.out.1]; omega)
      replace hap : (Builtin.append_ #[24, 24] 24 #[va, .slice (some ⟨wr.heap.size, 0, none⟩) 1 1]).run Tryd.prog ((wr.alloc (.cells #[.int .i64 (atN r.st k 2)] 3)).drew) = _ := hap
      have cA := at_any vs r.st k 2 wr.drew (l0.s.below (Below.refl _ _).drew) h1.out l0.ls (by omega) (by decide) (by decide)
      have a6 := r0.c6
      have c6 := x0.a.c6
      have d6 := yy.a.c6
      have f6 := yy.f 6
      have la := r0.lt
      have lq := x0.a.lt
      have bd : Below q wr (u0.setCell ⟨q, 6, none⟩ (.slice A ((fitTo r k).st.length + 1) cp)) := (Below.refl q wr).drew.trans bb
      have r1 := r0.below bd (by omega)
      have e1 := e0.below bd (by omega)
      have z1 := z0.below bd (by omega)
      have b1 := b0.trans (bd.mono (by omega))
      have l1 : LR (u0.setCell ⟨q, 6, none⟩ (.slice A ((fitTo r k).st.length + 1) cp)) r vs vb vc := hx.below (show Below w.heap.size w _ by rw [hp.out]; exact b1)
      clear r0 e0 x0 o0 z0 b0 l0 bd bb yy
      go_wp2_with (fail)
      go_cut [] from 29 to 64 (fun wx => wx = u0.setCell ⟨q, 6, none⟩ (.slice A ((fitTo r k).st.length + 1) cp))
      case first =>
        go_region_law (first | (refine step_append_run hap _ _ rfl rfl rfl (by simp [Act.eval, Act.put]) (by simp [Act.eval, Act.put]) ?_) | (go_simp; go_at_call 52; refine cA.mono ?_; rintro e w' ⟨rfl, rfl⟩))
        all_goals (go_wp2_with (fail); go_meet; rfl)
      case rest =>
      obtain rfl := hcut
      clear hap cA a6 c6 d6 f6
      generalize u0.setCell ⟨q, 6, none⟩ (.slice A ((fitTo r k).st.length + 1) cp) = wr1 at *
      obtain ⟨A2, cp2, u1, hap, yy, x2, o2, bb⟩ := push7 x1.drew o1.drew (atN r.bo k (fG r)) (by show (fitTo r k).bo.length ≤ 1000; rw [hln.out.2.1]; omega)
      replace hap : (Builtin.append_ #[24, 24] 24 #[vb', .slice (some ⟨wr1.heap.size, 0, none⟩) 1 1]).run Tryd.prog ((wr1.alloc (.cells #[.int .i64 (atN r.bo k (fG r))] 3)).drew) = Result.ok (.slice A2 ((fitTo r k).bo.length + 1) cp2) u1 := hap
      have cA := at_any vb r.bo k (fG r) wr1.drew (l1.b.below (Below.refl _ _).drew) h2.out l1.lb (by omega) (by omega) (by omega)
      have a7 := r1.c7
      have c7 := x1.a.c7
      have c2 : wr1.cell? ⟨q, 2, none⟩ = some (.int .i64 (fG r)) := x1.a.c2
      have d7 := yy.a.c7
      have f7 := yy.f 7
      have la := r1.lt
      have lq := x1.a.lt
      have bd : Below q wr1 (u1.setCell ⟨q, 7, none⟩ (.slice A2 ((fitTo r k).bo.length + 1) cp2)) := (Below.refl q wr1).drew.trans bb
      have r2 := r1.below bd (by omega)
      have e2 := e1.below bd (by omega)
      have z2 := z1.below bd (by omega)
      have b2 := b1.trans (bd.mono (by omega))
      have l2 : LR (u1.setCell ⟨q, 7, none⟩ (.slice A2 ((fitTo r k).bo.length + 1) cp2)) r vs vb vc := hx.below (show Below w.heap.size w _ by rw [hp.out]; exact b2)
      replace x2 : LblBox (u1.setCell ⟨q, 7, none⟩ (.slice A2 ((fitTo r k).bo.length + 1) cp2)) q _ _ _ _ := x2
      replace o2 : O3 (u1.setCell ⟨q, 7, none⟩ (.slice A2 ((fitTo r k).bo.length + 1) cp2)) (q + 1) _ _ _ _ := o2
      clear r1 e1 x1 o1 z1 b1 l1 bd bb yy
      go_wp2_with (fail)
      go_cut [] from 29 to 64 (fun wx => wx = u1.setCell ⟨q, 7, none⟩ (.slice A2 ((fitTo r k).bo.length + 1) cp2))
      case first =>
        go_region_law (first | (refine step_append_run hap _ _ rfl rfl rfl (by simp [Act.eval, Act.put]) (by simp [Act.eval, Act.put]) ?_) | (go_simp; go_at_call 52; refine cA.mono ?_; rintro e w' ⟨rfl, rfl⟩))
        all_goals (go_wp2_with (fail); go_meet; rfl)
      case rest =>
      obtain rfl := hcut
      clear hap cA a7 c7 c2 d7 f7
      generalize u1.setCell ⟨q, 7, none⟩ (.slice A2 ((fitTo r k).bo.length + 1) cp2) = wr2 at *
      have hx2 := Lib.hid x2.drew
      have ho2 := Lib.hid o2.drew
      have a8 := r2.c8
      have hJst := Lib.hid (show fitTo r (k + 1) = { fitTo r k with st := (fitTo r k).st ++ [atN r.st k 2], bo := (fitTo r k).bo ++ [atN r.bo k (fG r)], cu := (fitTo r k).cu ++ [atN r.cu k (fT r)] } by have h := hst.out; rw [← h.1, ← h.2.1, ← h.2.2]; rfl)
      have c8 := x2.a.c8
      have la := r2.lt
      have lq := x2.a.lt
      have lgw := e2.lt
      have g0 := e2.k
      have g1 := e2.m
      have g2 := e2.b
      go_wp2_with (fail)
      go_region_law (first
        | (refine step_append_run hap _ _ rfl rfl rfl (by simp [Act.eval, Act.put]) (by simp [Act.eval, Act.put]) ?_)
        | (go_simp; go_at_call 48; refine (cT.out _).mono ?_; rintro e w9 ⟨rfl, b9⟩; have b9' : Below wr2.heap.size wr2 w9 := (Below.refl _ _).drew.trans b9; have x9 := hx2.out.below b9 lq; have o9 := ho2.out.after b9; obtain ⟨A3, cp3, u3, hap, yy, x3, o3, bb⟩ := push8 x9 o9 (atN r.cu k (fT r)) (by show (fitTo r k).cu.length ≤ 1000; rw [hln.out.2.2]; omega); have a8' := (r2.below b9' la).c8; have c8' := x9.a.c8; have lq9 := x9.a.lt; have la9 := Nat.lt_of_lt_of_le la b9'.size; have d8 := yy.a.c8; have f8 := yy.f 8; have cA := at_any vc r.cu k (fT r) w9 ((l2.below b9').c) h3.out l2.lc (by omega) (by omega) (by omega))
        | (go_simp; go_at_call 52; refine cA.mono ?_; rintro e w' ⟨rfl, rfl⟩))
      all_goals
        have bz : Below q wr2 (u3.setCell ⟨q, 8, none⟩ (.slice A3 ((fitTo r k).cu.length + 1) cp3)) := (b9'.mono (by omega)).trans bb
        obtain ⟨va3, vb3, vc3, hJ⟩ : ∃ va vb' vc', FIn w p g q r vs vb vc (k + 1) (u3.setCell ⟨q, 8, none⟩ (.slice A3 ((fitTo r k).cu.length + 1) cp3)) va vb' vc' := ⟨_, _, _, ⟨r2.below bz (by omega), by rw [hK.out, hM.out, hC.out]; exact e2.below bz (by omega), by rw [hJst.out]; exact x3, by rw [hJst.out]; exact o3, z2.below bz (by omega), hx.below (show Below w.heap.size w _ by rw [hp.out]; exact b2.trans (bz.mono (by omega))), b2.trans (bz.mono (by omega))⟩⟩
        replace hJ := Lib.hid hJ
        clear r2 e2 x2 o2 z2 b2 l2 hx2 ho2 a8 c8 g0 g1 g2 b9 b9' x9 o9 hap yy x3 o3 bb a8' c8' d8 f8 cA bz
        go_wp2_with (fail)
        go_roundw
        case rel => first | exact ⟨k + 1, by omega, by go_num, va3, vb3, vc3, hJ.out⟩ | exact ⟨_, ⟨k + 1, by omega, by go_num, va3, vb3, vc3, hJ.out⟩, rfl⟩ | exact ⟨_, _, ⟨k + 1, by omega, by go_num, va3, vb3, vc3, hJ.out⟩, rfl⟩ | ((repeat apply Exists.intro); exact ⟨by omega, by go_num, hJ.out⟩)
        case measure => simp [intOf]; omega
    · obtain rfl : k = N := by omega
      have y1 : ¬ ((k : Int) < (k : Int)) := by omega
      obtain ⟨y, hy⟩ : ∃ y, fitTo r k = y := ⟨_, rfl⟩
      have eF : Hid (fitL r = y) := Lib.hid (by unfold fitL; rw [hNn.out, hy])
      rw [hy] at x0 o0
      clear hy
      obtain ⟨A1, n1, C1, rfl⟩ : ∃ a n c, va = .slice a n c := by obtain ⟨a, c, h⟩ := o0.a.isSlice; exact ⟨a, _, c, h⟩
      obtain ⟨A2, n2, C2, rfl⟩ : ∃ a n c, vb' = .slice a n c := by obtain ⟨a, c, h⟩ := o0.b.isSlice; exact ⟨a, _, c, h⟩
      obtain ⟨A3, n3, C3, rfl⟩ : ∃ a n c, vc' = .slice a n c := by obtain ⟨a, c, h⟩ := o0.c.isSlice; exact ⟨a, _, c, h⟩
      have ⟨i0, i1, i2, i3, i4, i5, i6, i7, i8, ilt⟩ := x0.a
      have ⟨t0, t1, t2, t3, t4, t5, t6, t7, t8, tlt⟩ := z0.a
      have w20 := z0.f 0
      have w21 := z0.f 1
      have w22 := z0.f 2
      have w23 := z0.f 3
      have w24 := z0.f 4
      have w25 := z0.f 5
      have w26 := z0.f 6
      have w27 := z0.f 7
      have w28 := z0.f 8
      go_wp2_with (fail)
      have hO : O3 (setL wr (p + 1) y (.slice A1 n1 C1) (.slice A2 n2 C2) (.slice A3 n3 C3)) w.heap.size y (.slice A1 n1 C1) (.slice A2 n2 C2) (.slice A3 n3 C3) := (o0.heap fun k' hk' _ => setL_heap wr (p + 1) y (.slice A1 n1 C1) (.slice A2 n2 C2) (.slice A3 n3 C3) k' (by omega)).mono (by rw [hp.out]; omega)
      refine bodyPost_ret (res_fit (z0.put y (.slice A1 n1 C1) (.slice A2 n2 C2) (.slice A3 n3 C3)) rfl) rfl ?_
      rw [eF.out]
      refine ⟨_, _, _, rfl, hO, ?_⟩
      rw [hp.out]
      exact setL_below b0 (by omega) y (.slice A1 n1 C1) (.slice A2 n2 C2) (.slice A3 n3 C3)
end Go.Proofs.YtaopknddpagjeaaDoor
