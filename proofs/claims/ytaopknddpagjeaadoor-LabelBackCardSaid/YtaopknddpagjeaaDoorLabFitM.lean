/- label: raw labels made right. -/
import Derived.Test.YtaopknddpagjeaaDoorLabBox
import Derived.Deep.RegionHeld3
import Derived.Deep.RegionLaw
import Derived.IntWalk
import Derived.Deep.Cut
namespace Go.Proofs.YtaopknddpagjeaaDoor
open Go.RowKit
set_option linter.unusedVariables false
set_option linter.unusedSimpArgs false
open Lb

/-- Which of n things a raw number speaks of. -/
def pk (c n : Int) : Int := (if c < 0 then -(c + 1) else c) % n
theorem pk_rng (c n : Int) (h : 1 ≤ n) : 0 ≤ pk c n ∧ pk c n < n := by
  unfold pk; exact ⟨Int.emod_nonneg _ (by omega), Int.emod_lt_of_pos _ (by omega)⟩
theorem pick7_any (c n : Int) (w : World) (h1 : -9223372036854775808 ≤ c) (h2 : c ≤ 9223372036854775807) (h3 : 1 ≤ n) (h4 : n ≤ 9223372036854775807) :
    Calls Tryd.prog 65 #[.int .i64 c, .int .i64 n] w fun e w' => e = .returned (.int .i64 (pk c n)) ∧ w = w' := by
  by_cases hc : c < 0
  · have hp : Hid (pk c n = -((c + 1).tmod n)) := Lib.hid (by unfold pk; rw [if_pos hc, ← Int.neg_tmod, Int.tmod_eq_emod_of_nonneg (by omega)])
    go_enter Tryd.func65, Tryd.ntmps65
    go_wp2
    go_ret
    exact ⟨by rw [hp.out]; rfl, rfl⟩
  · have hp : Hid (pk c n = c % n) := Lib.hid (by unfold pk; rw [if_neg hc])
    go_enter Tryd.func65, Tryd.ntmps65
    go_wp2
    go_ret
    exact ⟨by rw [hp.out]; rfl, rfl⟩

def fK (K : Int) : Int := 1 + pk K 4
def fM (M : Int) : Int := 1 + pk M 3
def fB (B : Int) : Int := 8 + pk B 193
theorem fit_right (K M B : Int) : gR (fK K) (fM M) (fB B) = true := by
  have h1 := pk_rng K 4 (by omega); have h2 := pk_rng M 3 (by omega); have h3 := pk_rng B 193 (by omega)
  exact gR_mk (by unfold fK fM fB; omega)
theorem pick10_any (c n : Int) (w : World) (h1 : -9223372036854775808 ≤ c) (h2 : c ≤ 9223372036854775807) (h3 : 1 ≤ n) (h4 : n ≤ 9223372036854775807) :
    Calls Tryd.prog 20 #[.int .i64 c, .int .i64 n] w fun e w' => e = .returned (.int .i64 (pk c n)) ∧ w = w' := by
  by_cases hc : c < 0
  · have hp : Hid (pk c n = -((c + 1).tmod n)) := Lib.hid (by unfold pk; rw [if_pos hc, ← Int.neg_tmod, Int.tmod_eq_emod_of_nonneg (by omega)])
    go_enter Tryd.func20, Tryd.ntmps20
    go_wp2
    go_ret
    exact ⟨by rw [hp.out]; rfl, rfl⟩
  · have hp : Hid (pk c n = c % n) := Lib.hid (by unfold pk; rw [if_neg hc])
    go_enter Tryd.func20, Tryd.ntmps20
    go_wp2
    go_ret
    exact ⟨by rw [hp.out]; rfl, rfl⟩
set_option maxRecDepth 100000 in
set_option maxHeartbeats 600000 in
theorem fit7_any (K M B : Int) (w : World) (k1 : -9223372036854775808 ≤ K) (k2 : K ≤ 9223372036854775807) (m1 : -9223372036854775808 ≤ M) (m2 : M ≤ 9223372036854775807) (b1 : -9223372036854775808 ≤ B) (b2 : B ≤ 9223372036854775807) :
    Calls Tryd.prog 51 #[.agg #[.int .i64 K, .int .i64 M, .int .i64 B]] w fun e w' => e = .returned (.agg #[.int .i64 (fK K), .int .i64 (fM M), .int .i64 (fB B)]) ∧ Below w.heap.size w w' := by
  have h1 := pk_rng K 4 (by omega); have h2 := pk_rng M 3 (by omega); have h3 := pk_rng B 193 (by omega)
  have v1 : IntKind.i64.wrap (1 + pk K 4) = fK K := IntWalk.i64_in _ (by omega)
  have v2 : IntKind.i64.wrap (1 + pk M 3) = fM M := IntWalk.i64_in _ (by omega)
  have v3 : IntKind.i64.wrap (8 + pk B 193) = fB B := IntWalk.i64_in _ (by omega)
  have hB0 : Below w.heap.size w ((w.alloc (.cells #[.int .i64 K, .int .i64 M, .int .i64 B] 23)).alloc (.cells #[.int .i64 0, .int .i64 0, .int .i64 0] 23)) := ((Below.refl _ _).alloc (Nat.le_refl _) _).alloc (by simp) _
  have hf0 : ∀ i, ((w.alloc (.cells #[.int .i64 K, .int .i64 M, .int .i64 B] 23)).alloc (.cells #[.int .i64 0, .int .i64 0, .int .i64 0] 23)).frozen? ⟨w.heap.size + 1, i, none⟩ = false := fun i => by simp
  go_enter Tryd.func51, Tryd.ntmps51
  go_wp2
  go_region_held3 (fun w' => w'.cell? ⟨w.heap.size, 0, none⟩ = some (.int .i64 K) ∧ w'.cell? ⟨w.heap.size, 1, none⟩ = some (.int .i64 M) ∧ w'.cell? ⟨w.heap.size, 2, none⟩ = some (.int .i64 B)) (first | (simp; done) | go_keep)
    (first | (go_at_call 65; refine (pick7_any _ _ _ (by omega) (by omega) (by omega) (by omega)).mono ?_; rintro e w' ⟨rfl, rfl⟩))
  all_goals go_wp2
  refine bodyPost_ret (v := .agg #[.int .i64 (fK K), .int .i64 (fM M), .int .i64 (fB B)]) ?_ rfl ⟨rfl, ?_⟩
  · simp only [results, Tryd.results51]
    simp [go_sem, v1, v2, v3]
  · exact (((Below.refl _ _).alloc (Nat.le_refl _) _).alloc (by simp) _).drew
/-- A raw list's number at a place. -/
def atN (l : List Int) (i : Nat) (most : Int) : Int := if i < l.length then pk (l.getD i 0) (most + 1) else 0
theorem atN_rng (l : List Int) (i : Nat) (most : Int) (h : 0 ≤ most) : 0 ≤ atN l i most ∧ atN l i most ≤ most := by
  unfold atN; split
  · have := pk_rng (l.getD i 0) (most + 1) (by omega); omega
  · omega
theorem at_any (v : Value) (l : List Int) (i : Nat) (most : Int) (w : World) (hR : Reads w v (l.map (.int .i64))) (hI : ∀ n ∈ l, -9223372036854775808 ≤ n ∧ n ≤ 9223372036854775807) (hl : l.length ≤ 140737488355328) (hi : i ≤ 1000) (h0 : 0 ≤ most) (h1 : most ≤ 1099511627776) :
    Calls Tryd.prog 52 #[v, .int .i64 (i : Int), .int .i64 most] w fun e w' => e = .returned (.int .i64 (atN l i most)) ∧ w = w' := by
  obtain ⟨a, cap, rfl, hc⟩ := hR.nums
  by_cases h : i < l.length
  · obtain ⟨cb, co, rfl, hcb, hcell⟩ := hc i h
    have hp : Hid (atN l i most = pk (l.getD i 0) (most + 1)) := Lib.hid (by unfold atN; rw [if_pos h])
    have hm : l.getD i 0 ∈ l := by rw [getD_get h]; exact List.getElem_mem h
    have hb := hI _ hm
    have y1 : (i : Int) < (l.length : Int) := by omega
    have y2 : ¬ ((i : Int) ≥ (l.length : Int)) := by omega
    clear hc hI hR
    generalize l.getD i 0 = x at *
    have cP := fun W => pick10_any x (most + 1) W hb.1 hb.2 (by omega) (by omega)
    go_enter Tryd.func52, Tryd.ntmps52
    go_wp2_with (fail)
    refine (cP _).mono ?_
    rintro e w' ⟨rfl, rfl⟩
    go_wp2_with (fail)
    go_ret
    exact ⟨by rw [hp.out]; rfl, rfl⟩
  · have hp : Hid (atN l i most = 0) := Lib.hid (by unfold atN; rw [if_neg h])
    have y2 : (i : Int) ≥ (l.length : Int) := by omega
    clear hc hI hR
    go_enter Tryd.func52, Tryd.ntmps52
    go_wp2_with (fail)
    go_ret
    exact ⟨by rw [hp.out]; rfl, rfl⟩
/-- How many slots. -/
def fN (r : Lbl) : Nat := (fK r.k + fM r.m).toNat
def fG (r : Lbl) : Int := 1 + pk r.g 1099511627776
def fT (r : Lbl) : Int := gStripes (fK r.k) (fM r.m) (fB r.b)
def fitTo (r : Lbl) (k : Nat) : Lbl := ⟨1 + pk r.i 65535, pk r.s (fK r.k + fM r.m), fG r, fK r.k, fM r.m, fB r.b, (List.range k).map fun i => atN r.st i 2, (List.range k).map fun i => atN r.bo i (fG r), (List.range k).map fun i => atN r.cu i (fT r)⟩
def fitL (r : Lbl) : Lbl := fitTo r (fN r)
theorem fN_rng (r : Lbl) : ((fN r : Nat) : Int) = fK r.k + fM r.m ∧ 2 ≤ fN r ∧ fN r ≤ 7 := by
  have h1 := pk_rng r.k 4 (by omega)
  have h2 := pk_rng r.m 3 (by omega)
  unfold fN fK fM
  omega
theorem fG_rng (r : Lbl) : 1 ≤ fG r ∧ fG r ≤ 1099511627776 := by have := pk_rng r.g 1099511627776 (by omega); unfold fG; omega
theorem fT_rng (r : Lbl) : 1 ≤ fT r ∧ fT r ≤ 200 := by
  have hg := fit_right r.k r.m r.b
  obtain ⟨h1, h2, h3, h4, h5, h6⟩ := gR_true hg
  have := div_rng ⟨h1, h2⟩ ⟨h5, h6⟩
  unfold fT gStripes
  rw [hg, if_pos rfl]
  omega
theorem fit_ok (r : Lbl) : rightB (fitL r) = true := by
  have hn := fN_rng r
  have hg := fG_rng r
  have ht := fT_rng r
  have hs : nS (fitL r) = ((fN r : Nat) : Int) := by
    show gSlots (fK r.k) (fM r.m) (fB r.b) = _
    unfold gSlots; rw [fit_right, if_pos rfl, hn.1]
  have hT : nT (fitL r) = fT r := rfl
  have hi := pk_rng r.i 65535 (by omega)
  have hsl := pk_rng r.s (fK r.k + fM r.m) (by omega)
  refine (right_iff _).2 ⟨?_, ?_, hg, ?_, ?_, ?_, fun n hm => ?_, fun n hm => ?_, fun n hm => ?_⟩
  · show 1 ≤ 1 + pk r.i 65535 ∧ 1 + pk r.i 65535 ≤ 65535; omega
  · rw [hs]; show 0 ≤ pk r.s _ ∧ pk r.s _ < _; omega
  · rw [hs]; simp [fitL, fitTo]
  · rw [hs]; simp [fitL, fitTo]
  · rw [hs]; simp [fitL, fitTo]
  · obtain ⟨i, _, rfl⟩ := List.mem_map.1 hm; exact atN_rng _ _ _ (by omega)
  · obtain ⟨i, _, rfl⟩ := List.mem_map.1 hm; exact atN_rng _ _ _ (by omega)
  · rw [hT]; obtain ⟨i, _, rfl⟩ := List.mem_map.1 hm; exact atN_rng _ _ _ (by omega)
theorem fitTo_len (r : Lbl) (k : Nat) : (fitTo r k).st.length = k ∧ (fitTo r k).bo.length = k ∧ (fitTo r k).cu.length = k := by simp [fitTo]
theorem fitTo_step (r : Lbl) (k : Nat) : (fitTo r (k + 1)).st = (fitTo r k).st ++ [atN r.st k 2] ∧ (fitTo r (k + 1)).bo = (fitTo r k).bo ++ [atN r.bo k (fG r)] ∧ (fitTo r (k + 1)).cu = (fitTo r k).cu ++ [atN r.cu k (fT r)] := by
  simp [fitTo, List.range_succ]
end Go.Proofs.YtaopknddpagjeaaDoor
