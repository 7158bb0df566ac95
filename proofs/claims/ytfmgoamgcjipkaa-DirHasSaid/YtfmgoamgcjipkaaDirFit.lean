/- dir's laws: raw volumes made right. -/
import Derived.Test.YtfmgoamgcjipkaaDirLaw1
import Derived.Test.YtfmgoamgcjipkaaVolArgs
namespace Go.Proofs.Ytfmgoamgcjipkaa
open Go.RowKit
set_option linter.unusedVariables false
set_option linter.unusedSimpArgs false
open Dr

def pk (c n : Int) : Int := (if c < 0 then -(c + 1) else c) % n
theorem pk_rng (c n : Int) (h : 1 ≤ n) : 0 ≤ pk c n ∧ pk c n < n := by
  unfold pk; exact ⟨Int.emod_nonneg _ (by omega), Int.emod_lt_of_pos _ (by omega)⟩
theorem pick_any (c n : Int) (w : World) (h1 : -9223372036854775808 ≤ c) (h2 : c ≤ 9223372036854775807) (h3 : 1 ≤ n) (h4 : n ≤ 9223372036854775807) :
    Calls Try.prog 28 #[.int .i64 c, .int .i64 n] w fun e w' => e = .returned (.int .i64 (pk c n)) ∧ w = w' := by
  by_cases hc : c < 0
  · have hp : Hid (pk c n = -((c + 1).tmod n)) := Lib.hid (by unfold pk; rw [if_pos hc, ← Int.neg_tmod, Int.tmod_eq_emod_of_nonneg (by omega)])
    go_enter Try.func28, Try.ntmps28
    go_wp2
    go_ret
    exact ⟨by rw [hp.out]; rfl, rfl⟩
  · have hp : Hid (pk c n = c % n) := Lib.hid (by unfold pk; rw [if_neg hc])
    go_enter Try.func28, Try.ntmps28
    go_wp2
    go_ret
    exact ⟨by rw [hp.out]; rfl, rfl⟩

theorem pick_nat (n m : Int) (h1 : -9223372036854775808 ≤ n) (h2 : n ≤ 9223372036854775807) (h3 : 1 ≤ m) (h4 : m ≤ 9223372036854775807) :
    ∃ p : Nat, (p : Int) < m ∧ pk n m = (p : Int) ∧ ∀ w, Calls Try.prog 28 #[.int .i64 n, .int .i64 m] w fun e w' => e = .returned (.int .i64 (p : Int)) ∧ w = w' := by
  have hr := pk_rng n m h3
  obtain ⟨p, hp⟩ := Int.eq_ofNat_of_zero_le hr.1
  refine ⟨p, by omega, hp, fun w => ?_⟩
  rw [← hp]
  exact pick_any n m w h1 h2 h3 (by omega)

theorem rises_snoc {l : List Vol} {y : Vol} (h : Rises l) (hy : ∀ x ∈ l, lt x.n y.n = true) : Rises (l ++ [y]) := by
  refine List.pairwise_append.2 ⟨h, List.pairwise_singleton _ _, fun a ha b hb => ?_⟩
  simp at hb; subst hb; exact hy a ha
theorem volB_of (t : ByteArray) (ht : nameB t = true) (s r : Int) (hs : 0 ≤ s ∧ s ≤ 4096) (hr : r = 0 ∨ 3 ≤ r ∧ r < 200) : volB 200 ⟨t, s, r⟩ = true := by
  unfold volB; rw [ht, decide_eq_true hs, decide_eq_true hr]; rfl
def nmN (k : Nat) : ByteArray := [(⟨#[97]⟩ : ByteArray), ⟨#[98]⟩, ⟨#[99]⟩, ⟨#[100]⟩, ⟨#[101]⟩, ⟨#[97, 98]⟩, ⟨#[97, 49]⟩, ⟨#[122, 122, 57, 57, 57, 57]⟩, ⟨#[118, 111, 108]⟩, ⟨#[118, 48]⟩, ⟨#[109]⟩, ⟨#[98, 50]⟩].getD k ⟨#[]⟩
theorem nmN_name : ∀ k, k < 12 → nameB (nmN k) = true := by
  intro k hk
  rcases (by omega : k = 0 ∨ k = 1 ∨ k = 2 ∨ k = 3 ∨ k = 4 ∨ k = 5 ∨ k = 6 ∨ k = 7 ∨ k = 8 ∨ k = 9 ∨ k = 10 ∨ k = 11) with rfl | rfl | rfl | rfl | rfl | rfl | rfl | rfl | rfl | rfl | rfl | rfl <;> kernel_rfl
set_option maxRecDepth 100000 in
theorem name_any (n : Int) (h1 : -9223372036854775808 ≤ n) (h2 : n ≤ 9223372036854775807) : ∃ t : ByteArray, nameB t = true ∧ ∀ w, Calls Try.prog 27 #[.int .i64 n] w (Tells w (.string t)) := by
  obtain ⟨p, hp, _, cp⟩ := pick_nat n 12 h1 h2 (by decide) (by decide)
  refine ⟨nmN p, nmN_name p (by omega), fun w => ?_⟩
  have cell : (w.alloc (.cells #[.string ⟨#[97]⟩, .string ⟨#[98]⟩, .string ⟨#[99]⟩, .string ⟨#[100]⟩, .string ⟨#[101]⟩, .string ⟨#[97, 98]⟩, .string ⟨#[97, 49]⟩, .string ⟨#[122, 122, 57, 57, 57, 57]⟩, .string ⟨#[118, 111, 108]⟩, .string ⟨#[118, 48]⟩, .string ⟨#[109]⟩, .string ⟨#[98, 50]⟩] 9)).cell? ⟨w.heap.size, p, none⟩ = some (.string (nmN p)) := by
    rw [World.cell?_alloc_mark]
    rcases (by omega : p = 0 ∨ p = 1 ∨ p = 2 ∨ p = 3 ∨ p = 4 ∨ p = 5 ∨ p = 6 ∨ p = 7 ∨ p = 8 ∨ p = 9 ∨ p = 10 ∨ p = 11) with rfl | rfl | rfl | rfl | rfl | rfl | rfl | rfl | rfl | rfl | rfl | rfl <;> rfl
  have hbox := (Below.refl w.heap.size w).alloc (Nat.le_refl _) (.cells #[.string ⟨#[97]⟩, .string ⟨#[98]⟩, .string ⟨#[99]⟩, .string ⟨#[100]⟩, .string ⟨#[101]⟩, .string ⟨#[97, 98]⟩, .string ⟨#[97, 49]⟩, .string ⟨#[122, 122, 57, 57, 57, 57]⟩, .string ⟨#[118, 111, 108]⟩, .string ⟨#[118, 48]⟩, .string ⟨#[109]⟩, .string ⟨#[98, 50]⟩] 9)
  generalize nmN p = t at *
  go_enter Try.func27, Try.ntmps27
  go_wp2_with (go_at_call 28; refine (cp _).mono ?_; rintro e w' ⟨rfl, rfl⟩)
  go_ret
  exact ⟨rfl, hbox⟩
/-- What the inner loop keeps. -/
structure FInv (L : List Vol) (y : Vol) (N : List Vol) (t : Bool) (k : Nat) : Prop where
  r : Rises N
  v : ∀ x ∈ N, volB 200 x = true
  len : N.length ≤ k + (if t then 1 else 0)
  lo : ∀ x ∈ N, ∀ j, k ≤ j → j < L.length → lt x.n (at_ L j).n = true
  no : t = false → ∀ x ∈ N, lt x.n y.n = true
theorem FInv.start (L : List Vol) (y : Vol) : FInv L y [] false 0 := ⟨List.Pairwise.nil, (fun x h => by cases h), by simp, (fun x h => by cases h), (fun _ x h => by cases h)⟩
section
variable {L : List Vol} {y : Vol} {N : List Vol} {t : Bool} {k : Nat}
theorem FInv.put (h : FInv L y N false k) (hL : Rises L) (hv : ∀ x ∈ L, volB 200 x = true) (hy : volB 200 y = true) (hk : k < L.length) (hge : lt (at_ L k).n y.n = false) :
    ((at_ L k).n ≠ y.n → FInv L y (N ++ [y] ++ [at_ L k]) true (k + 1)) ∧ ((at_ L k).n = y.n → FInv L y (N ++ [y]) true (k + 1)) := by
  have r1 := rises_snoc h.r (h.no rfl)
  have hat : volB 200 (at_ L k) = true := by rw [at_get hk]; exact hv _ (List.getElem_mem hk)
  have hlen := h.len
  simp at hlen
  constructor
  · intro hne
    have hlt : lt y.n (at_ L k).n = true := lt_tri hge hne
    refine ⟨rises_snoc r1 fun x hx => ?_, fun x hx => ?_, by simp; omega, fun x hx j hj hjl => ?_, fun h => by cases h⟩
    · rcases List.mem_append.1 hx with hx | hx
      · exact h.lo x hx k (Nat.le_refl _) hk
      · simp at hx; subst hx; exact hlt
    · simp at hx
      rcases hx with hx | rfl | rfl
      · exact h.v x hx
      · exact hy
      · exact hat
    · simp at hx
      have hkj := rises_at hL (show k < j by omega) hjl
      rcases hx with hx | rfl | rfl
      · exact h.lo x hx j (by omega) hjl
      · exact lt_trans hlt hkj
      · exact hkj
  · intro he
    refine ⟨r1, fun x hx => ?_, by simp; omega, fun x hx j hj hjl => ?_, fun h => by cases h⟩
    · simp at hx
      rcases hx with hx | rfl
      · exact h.v x hx
      · exact hy
    · simp at hx
      have hkj := rises_at hL (show k < j by omega) hjl
      rcases hx with hx | rfl
      · exact h.lo x hx j (by omega) hjl
      · rw [← he]; exact hkj
theorem FInv.on (h : FInv L y N t k) (hL : Rises L) (hv : ∀ x ∈ L, volB 200 x = true) (hk : k < L.length) (hno : t = false → lt (at_ L k).n y.n = true) : FInv L y (N ++ [at_ L k]) t (k + 1) := by
  have hat : volB 200 (at_ L k) = true := by rw [at_get hk]; exact hv _ (List.getElem_mem hk)
  have hlen := h.len
  refine ⟨rises_snoc h.r fun x hx => h.lo x hx k (Nat.le_refl _) hk, fun x hx => ?_, by rw [List.length_append]; simp only [List.length_cons, List.length_nil]; omega, fun x hx j hj hjl => ?_, fun ht x hx => ?_⟩
  · simp at hx
    rcases hx with hx | rfl
    · exact h.v x hx
    · exact hat
  · simp at hx
    rcases hx with hx | rfl
    · exact h.lo x hx j (by omega) hjl
    · exact rises_at hL (by omega) hjl
  · simp at hx
    rcases hx with hx | rfl
    · exact h.no ht x hx
    · exact hno ht
theorem FInv.skip (h : FInv L y N t k) (ht : t = true) : FInv L y N t (k + 1) :=
  ⟨h.r, h.v, by have := h.len; omega, fun x hx j hj hjl => h.lo x hx j (by omega) hjl, h.no⟩
theorem FInv.fin (h : FInv L y N false L.length) (hy : volB 200 y = true) : Rises (N ++ [y]) ∧ (∀ x ∈ N ++ [y], volB 200 x = true) ∧ (N ++ [y]).length ≤ L.length + 1 := by
  refine ⟨rises_snoc h.r (h.no rfl), fun x hx => ?_, ?_⟩
  · simp at hx
    rcases hx with hx | rfl
    · exact h.v x hx
    · exact hy
  · have := h.len; simp at this; simp; omega
end
/-- The inner loop's lists lie so. -/
def FitsW (w : World) (e : Ending) (w' : World) : Prop := ∃ l v, e = .returned v ∧ OwnE volE w' w.heap.size 24 v l ∧ Below w.heap.size w w' ∧ rightB 200 l = true
end Go.Proofs.Ytfmgoamgcjipkaa
