/- journal: Puts on a rack that has power, and what is told behind them. -/
import Derived.Test.YtfadglcpapiklaaGreatDoorJrnMath3
import Derived.Test.YtfadglcpapiklaaGreatDoorLgeo
namespace Go.Proofs.YtfadglcpapiklaaGreatDoor
open Go.RowKit
open Rc
set_option linter.unusedVariables false
set_option linter.unusedSimpArgs false
set_option maxRecDepth 100000

def allL (n : Nat) : List Int := (List.range n).map fun i : Nat => (i : Int)
theorem allL_len (n : Nat) : (allL n).length = n := by simp [allL]
section
variable {n : Nat}
theorem allL_mem {x : Int} : x ∈ allL n ↔ 0 ≤ x ∧ x < (n : Int) := by
  unfold allL
  rw [List.mem_map]
  constructor
  · rintro ⟨j, hj, rfl⟩
    have := List.mem_range.1 hj
    omega
  · intro ⟨h0, h1⟩
    exact ⟨x.toNat, List.mem_range.2 (by omega), by omega⟩
theorem allL_nodup : (allL n).Nodup := by
  unfold allL
  exact List.Pairwise.map _ (fun a b h e => h (by omega)) List.nodup_range
end
/-- A geometry's slots and sectors. -/
structure Gm (n sec k m : Nat) (B : Int) : Prop where
  g : gR (k : Int) (m : Int) B = true
  n : n = k + m
  s : gSectors (k : Int) (m : Int) B = (sec : Int)
/-- Where a bay begins. -/
def bayN (k c : Nat) : Nat := if c = 0 then 2 else 3 + 16 * k
section
variable {n sec k m i a j : Nat} {R : Rk} {B q : Int} {ss : List St} {l : List Int}
theorem Gm.rng (h : Gm n sec k m B) : 1 ≤ k ∧ k ≤ 4 ∧ 1 ≤ m ∧ m ≤ 3 ∧ 2 ≤ n ∧ n ≤ 7 ∧ 4 + 32 * k ≤ sec ∧ sec ≤ 256 := by
  have hk := k_cases h.g
  have h1 := sectors_eq h.g
  have hn := h.n
  rw [h.s] at h1
  have hd := div_rng (K := (k : Int)) (B := B) (by omega) ⟨hk.2.2.1, hk.2.2.2⟩
  have hm := div_lt h.g (A := 0) (by omega) (by omega)
  rcases hk.1 with e | e | e | e <;> rw [e] at h1 <;> omega
theorem bay_head (h : Gm n sec k m B) (c : Nat) (hc : c < 2) : bayA (k : Int) (m : Int) B c = (bayN k c : Int) := by
  unfold bayA bayN gHead
  rw [h.g]
  rcases (by omega : c = 0 ∨ c = 1) with rfl | rfl <;> simp <;> omega
theorem head_bay (h : Gm n sec k m B) (hq : 0 ≤ q) : gHead (k : Int) (m : Int) B q = (bayN k (q % 2).toNat : Int) := by
  unfold bayN gHead
  rw [h.g, decide_eq_true hq]
  rcases (by omega : q % 2 = 0 ∨ q % 2 = 1) with e | e <;> rw [e] <;> simp <;> omega
theorem bay_in (h : Gm n sec k m B) (c : Nat) : bayN k c + 1 + 16 * k ≤ sec ∧ 2 ≤ bayN k c := by
  have := h.rng
  unfold bayN; split <;> omega
theorem bay_apart (c d e : Nat) (hc : c < 2) (hd : d < 2) (hne : c ≠ d) (he : e ≤ 16 * k) : bayN k c + e < bayN k d ∨ bayN k d + 1 + 16 * k ≤ bayN k c + e := by
  unfold bayN
  rcases (by omega : (c = 0 ∧ d = 1) ∨ (c = 1 ∧ d = 0)) with ⟨rfl, rfl⟩ | ⟨rfl, rfl⟩ <;> simp <;> omega
theorem body_len (h : Gm n sec k m B) (hr : rightB (k : Int) (m : Int) B q ss = true) : (allT ss).length = ss.length * k ∧ (allT ss).length ≤ 16 * k ∧ 1 ≤ (allT ss).length := by
  have hf := right_f hr
  have hk : ∀ s ∈ ss, s.d.length = k := fun s hs => by have := hf.d s hs; omega
  have e := allT_len hk
  have hn := hf.n
  have := Nat.mul_le_mul hn.2 (Nat.le_refl k)
  have h1 : 1 * 1 ≤ ss.length * k := Nat.mul_le_mul hn.1 (by have := h.rng; omega)
  omega
theorem Gm.plc (h : Gm n sec k m B) (hr : rightB (k : Int) (m : Int) B q ss = true) (i1 : 1 ≤ i) (i2 : i ≤ 65535) : Plc n sec i (bayN k (q % 2).toNat) (k : Int) (m : Int) B q ss := by
  have h1 := h.rng
  have h2 := body_len h hr
  have h3 := bay_in h (q % 2).toNat
  exact ⟨hr, i1, i2, by omega, by omega, by omega, head_bay h (by have := (right_g hr).2; omega)⟩
theorem Gm.fits (h : Gm n sec k m B) (hU : Up n sec R) (i1 : 1 ≤ i) (i2 : i ≤ 65535) : sfitsB n R (i : Int) (k : Int) (m : Int) B = true := by
  have h1 := h.n
  unfold sfitsB
  rw [h.g, hU.sz, h.s, slots_eq h.g, decide_eq_true (show (1 : Int) ≤ (i : Int) by omega), decide_eq_true (show (i : Int) ≤ 65535 by omega), decide_eq_true (Int.le_refl _)]
  simp
  omega
theorem right_list (hl : ∀ x ∈ l, 0 ≤ x ∧ x < (n : Int)) (hnd : l.Nodup) : srightB l (n : Int) = true := decide_eq_true ⟨hl, hnd⟩
/-- A Put. -/
structure PutTo (n sec k i : Nat) (q : Int) (ss : List St) (l : List Int) (R R' : Rk) : Prop where
  u : Up n sec R'
  bay : ∀ j : Nat, j < n → (j : Int) ∈ l → (R.M j).fd = false → Bay (R'.M j) i j (bayN k (q % 2).toNat) (layS q ss) (allT ss) ∧ (R'.M j).V = noV ∧ ∀ c, c < sec → c < bayN k (q % 2).toNat ∨ bayN k (q % 2).toNat + 1 + (allT ss).length ≤ c → topM (R'.M j) c = topM (R.M j) c
  oth : ∀ j : Nat, (j : Int) ∉ l ∨ (R.M j).fd = true → R'.M j = R.M j
  acts : (∀ x ∈ l, (R.M x.toNat).fd = false) → R'.acts = R.acts + (l.length : Int) * (((allT ss).length : Int) + 3)
theorem put_to (h : Gm n sec k m B) (hU : Up n sec R) (hr : rightB (k : Int) (m : Int) B q ss = true) (i1 : 1 ≤ i) (i2 : i ≤ 65535) (hl : ∀ x ∈ l, 0 ≤ x ∧ x < (n : Int)) (hnd : l.Nodup) : ∃ R', puM n R (i : Int) (k : Int) (m : Int) B l q ss = (R', deadL R l, 0) ∧ PutTo n sec k i q ss l R R' := by
  have hP := h.plc hr i1 i2
  have h1 := h.rng
  obtain ⟨ac, e, u, c⟩ := put_up (a := bayN k (q % 2).toNat) (h := layS q ss) (b := allT ss) hU i1 i2 (by omega) hP.ne hP.sz hP.hz (fun p hp => Nat.le_of_eq (hP.bz p hp)) hl hnd
  refine ⟨_, ?_, u, fun j hj hm hal => ?_, fun j hj => ?_, c⟩
  · unfold puM
    rw [if_pos ⟨h.fits hU i1 i2, right_list hl hnd⟩, if_pos hr, hP.g, Int.toNat_natCast]
    exact e
  · have eM : toL (putG i (bayN k (q % 2).toNat) (layS q ss) (allT ss)) l R.M j = putG i (bayN k (q % 2).toNat) (layS q ss) (allT ss) j (R.M j) := if_pos ⟨hm, hal⟩
    obtain ⟨g1, g2, g3⟩ := putG_len (i := i) (a := bayN k (q % 2).toNat) (h := layS q ss) (b := allT ss) (j := j) hal
    have hz := hU.l j hj
    have hsz := hP.sz
    have top : ∀ c, c < sec → _ := fun c hc => putG_top (i := i) (a := bayN k (q % 2).toNat) (h := layS q ss) (b := allT ss) (j := j) (c := c) i1 i2 (by omega) hal (by rw [hz]; exact hsz) (by rw [hz]; omega) hP.hz (fun p hp => Nat.le_of_eq (hP.bz p hp)) (by rw [hz]; exact hc)
    show Bay (toL _ l R.M j) _ _ _ _ _ ∧ (toL _ l R.M j).V = noV ∧ ∀ c, c < sec → _ → topM (toL _ l R.M j) c = _
    rw [eM]
    refine ⟨⟨g2, ?_, fun t ht => ?_⟩, g3, fun c hc hcc => ?_⟩
    · rw [top _ (by omega), if_pos rfl]
    · rw [top _ (by omega), if_neg (by omega), if_pos (by omega), show bayN k (q % 2).toNat + 1 + t - (bayN k (q % 2).toNat + 1) = t by omega]
    · rw [top _ hc, if_neg (by omega), if_neg (by omega)]
  · show toL _ l R.M j = R.M j
    unfold toL
    rw [if_neg]
    rintro ⟨z1, z2⟩
    rcases hj with z | z
    · exact z z1
    · rw [z] at z2; cases z2
/-- What a slot's bay tells. -/
theorem cand_at (h : Gm n sec k m B) (hU : Up n sec R) (hr : rightB (k : Int) (m : Int) B q ss = true) (i1 : 1 ≤ i) (i2 : i ≤ 65535) (hj : j < n) (hB : Bay (R.M j) i j (bayN k (q % 2).toNat) (layS q ss) (allT ss)) {c : Nat} (hc : c = (q % 2).toNat) : bayM n R (i : Int) (k : Int) (m : Int) B (j : Int) c = some (q, ss.map pr) := by
  unfold bayM
  rw [bay_head h c (by omega), hc]
  exact cand_bay (h.plc hr i1 i2) hj hU.off (hU.l j hj) hB
theorem cand_none {id slot : Int} {c : Nat} (h : Gm n sec k m B) (hc : c < 2) (hs : srB n R id slot (bayN k c : Int) = false) : bayM n R id (k : Int) (m : Int) B slot c = none := by
  unfold bayM
  rw [bay_head h c hc, look_shut hs, cand_nil]
theorem zero_bay (hoff : R.off = false) (hj : j < n) (hal : (R.M j).fd = false) {c : Nat} (hc : c < (R.M j).L.length) (ht : topM (R.M j) c = zero128) (id : Int) : srB n R id (j : Int) (c : Int) = false :=
  sr_shut (top_holds12 hoff hj hal hc) (by rw [ht]; exact zero_shut128 _ _ _)
theorem top_zero (j c : Nat) : topM ((R00 sec).M j) c = zero128 := top_00 j c
end
end Go.Proofs.YtfadglcpapiklaaGreatDoor
