/- member: chapter 8's example. -/
import Derived.Test.YtofhmdbilhdblaaMemSec
namespace Go.Proofs.Ytofhmdbilhdblaa
open Go.RowKit
set_option linter.unusedVariables false
set_option linter.unusedSimpArgs false

theorem one_of : ∀ (l : List Int) (a : Int), l.Pairwise (fun x y => x < y) → (∀ x, x ∈ l ↔ x = a) → l = [a]
  | [], a, _, h => absurd ((h a).2 rfl) (by simp)
  | [x], a, _, h => by rw [(h x).1 (by simp)]
  | x :: y :: r, a, hp, h => by
    have h1 := (h x).1 (by simp)
    have h2 := (h y).1 (by simp)
    have := (List.pairwise_cons.1 hp).1 y (by simp)
    omega
theorem updZ_twice {α : Type} (F : Int → α) (z : Int) (u v : α) : updZ (updZ F z u) z v = updZ F z v := by
  funext y; unfold updZ; by_cases h : y = z <;> simp [h]
theorem pend_one (n at_ : Nat) (l : List ByteArray) (h : at_ < n) (hl : l ≠ []) : pend n (updZ noV at_ l) = [(at_ : Int)] := by
  refine one_of _ _ (pend_lt _ _) (fun x => ?_)
  rw [mem_pend]
  constructor
  · rintro ⟨i, h1, h2, rfl⟩
    unfold zOf updZ noV at h2
    by_cases e : (i : Int) = (at_ : Int)
    · exact e
    · rw [if_neg e] at h2; simp at h2
  · rintro rfl
    refine ⟨at_, h, ?_, rfl⟩
    unfold zOf updZ
    rw [if_pos rfl]
    cases l with
    | nil => exact absurd rfl hl
    | cons => rfl
theorem pend_none (n at_ : Nat) : pend n (updZ noV at_ []) = [] := by
  rw [List.eq_nil_iff_forall_not_mem]
  intro x hx
  obtain ⟨i, _, h2, _⟩ := mem_pend.1 hx
  unfold zOf updZ noV at h2
  by_cases e : (i : Int) = (at_ : Int)
  · rw [if_pos e] at h2; simp at h2
  · rw [if_neg e] at h2; simp at h2
theorem updZ_noV (at_ : Int) : updZ noV at_ [] = noV := by
  funext y; unfold updZ noV; simp
/-- A crash where one sector alone was written. -/
theorem crash_one (L : List ByteArray) (at_ : Nat) (l : List ByteArray) (h : at_ < L.length) (c : Int) :
    crash L (updZ noV at_ l) [c] = if pickC c % (l.length + 1) = 0 then L else L.set at_ (l.getD (pickC c % (l.length + 1) - 1) zero128) := by
  unfold crash
  by_cases hl : l = []
  · subst hl
    rw [pend_none]
    have : pickC c % 1 = 0 := Nat.mod_one _
    simp [crL, this]
  · rw [pend_one _ _ _ h hl]
    have e1 : chJ (updZ noV at_ l) [c] [(at_ : Int)] 0 = pickC c % (l.length + 1) := by
      unfold chJ chAt
      show pickC c % ((updZ noV at_ l (at_ : Int)).length + 1) = _
      rw [updZ_same]
    show (if chJ (updZ noV at_ l) [c] [(at_ : Int)] 0 = 0 then L else L.set ((at_ : Int)).toNat ((updZ noV at_ l (at_ : Int)).getD (chJ (updZ noV at_ l) [c] [(at_ : Int)] 0 - 1) zero128)) = _
    rw [e1, updZ_same, Int.toNat_natCast]
def Ends (w : World) (b : Bool) (e : Ending) (w' : World) : Prop := e = .returned (.bool b) ∧ Below w.heap.size w w'
/-- A member that was made behind w. -/
structure MB (w : World) (w' : World) (m g bp cap : Nat) (L : List ByteArray) (V : Int → List ByteArray) : Prop where
  b : Below w.heap.size w w'
  h : ∃ S F, (∀ k, S k → w.heap.size ≤ k) ∧ PBox w' S m g bp cap false L V F
theorem MB.after {w w1 w2 : World} {m g bp cap : Nat} {L : List ByteArray} {V : Int → List ByteArray} (h : MB w w1 m g bp cap L V) (hb : Below w1.heap.size w1 w2) : MB w w2 m g bp cap L V := by
  obtain ⟨S, F, h1, h2⟩ := h.h
  exact ⟨h.b.trans (hb.mono h.b.size), S, F, h1, h2.below hb⟩
def MBs (w : World) (m g bp cap : Nat) (L : List ByteArray) (V : Int → List ByteArray) (u : Value) (e : Ending) (w' : World) : Prop := e = .returned u ∧ MB w w' m g bp cap L V
theorem mb_new (n : Nat) (w : World) (h1 : 1 ≤ n) (h2 : n ≤ 256) : Calls Try.prog 7 #[.int .i64 (n : Int)] w fun e w' => ∃ m g bp cap, MBs w m g bp cap (List.replicate n zero128) noV (.tuple #[.pointer (some ⟨m, 0, none⟩), .int .i64 0]) e w' :=
  (newm_any n w h1 h2).mono fun e w' ⟨S, m, g, bp, cap, he, hb, hS, hP⟩ => ⟨m, g, bp, cap, he, hb, S, noF, hS, hP⟩
theorem mb_write {w w1 : World} {m g bp cap : Nat} {L : List ByteArray} {V : Int → List ByteArray} (h : MB w w1 m g bp cap L V) (i : Nat) (hi : i < L.length) (s : ByteArray) (hs : s.size = 128) (hv : (V i).length ≤ 1000000000000) :
    Calls Try.prog 10 #[.pointer (some ⟨m, 0, none⟩), .int .i64 (i : Int), .string s] w1 (MBs w m g bp cap L (updZ V i (V i ++ [s])) (.int .i64 0)) := by
  obtain ⟨S, F, h1, h2⟩ := h.h
  refine (write_any h2 i hi s hs hv).mono fun e w' ⟨he, S', F', hst, hp⟩ => ⟨he, h.b.trans (hst.below h1 h.b.size), S', F', fun k hk => ?_, hp⟩
  rcases hst.grow k hk with x | x
  · exact h1 k x
  · exact Nat.le_trans h.b.size x
theorem mb_bad {w w1 : World} {m g bp cap : Nat} {L : List ByteArray} {V : Int → List ByteArray} (h : MB w w1 m g bp cap L V) (n : Int) (s : ByteArray) (hn : hasN L n = false ∨ s.size ≠ 128) :
    Calls Try.prog 10 #[.pointer (some ⟨m, 0, none⟩), .int .i64 n, .string s] w1 fun e w' => e = .returned (.int .i64 81) ∧ w1 = w' := by
  obtain ⟨S, F, h1, h2⟩ := h.h
  exact write_range h2 n s hn
theorem mb_read {w w1 : World} {m g bp cap : Nat} {L : List ByteArray} {V : Int → List ByteArray} (h : MB w w1 m g bp cap L V) (i : Nat) (hi : i < L.length) (hv : (V i).length ≤ 1000000000000) :
    Calls Try.prog 23 #[.pointer (some ⟨m, 0, none⟩), .int .i64 (i : Int)] w1 (GivesR w1 (lastOf (V i) L[i]) 0) := by
  obtain ⟨S, F, h1, h2⟩ := h.h
  exact read_any h2 i hi (by omega)
theorem mb_vers {w w1 : World} {m g bp cap : Nat} {L : List ByteArray} {V : Int → List ByteArray} (h : MB w w1 m g bp cap L V) (i : Int) (hi : In64 i) :
    Calls Try.prog 29 #[.pointer (some ⟨m, 0, none⟩), .int .i64 i] w1 fun e w' => e = .returned (.int .i64 ((V i).length : Int)) ∧ w1 = w' := by
  obtain ⟨S, F, h1, h2⟩ := h.h
  exact vers_any h2 i hi
theorem mb_size {w w1 : World} {m g bp cap : Nat} {L : List ByteArray} {V : Int → List ByteArray} (h : MB w w1 m g bp cap L V) :
    Calls Try.prog 27 #[.pointer (some ⟨m, 0, none⟩)] w1 fun e w' => e = .returned (.int .i64 (L.length : Int)) ∧ w1 = w' := by
  obtain ⟨S, F, h1, h2⟩ := h.h
  exact size_any h2
theorem mb_alive {w w1 : World} {m g bp cap : Nat} {L : List ByteArray} {V : Int → List ByteArray} (h : MB w w1 m g bp cap L V) :
    Calls Try.prog 25 #[.pointer (some ⟨m, 0, none⟩)] w1 fun e w' => e = .returned (.bool true) ∧ w1 = w' := by
  obtain ⟨S, F, h1, h2⟩ := h.h
  exact alive_any h2
/-- A crash by a choice of one number, in a slice that the call has just laid. -/
theorem mb_crash {w w1 : World} {m g bp cap : Nat} {L : List ByteArray} {V : Int → List ByteArray} (h : MB w w1 m g bp cap L V) (c : Int) (hc : In64 c) (hv : ∀ z, (V z).length ≤ 1000000000000) :
    Calls Try.prog 15 #[.pointer (some ⟨m, 0, none⟩), .slice (some ⟨w1.heap.size, 0, none⟩) 1 1] (w1.alloc (.cells #[.int .i64 c] 3)) (MBs w m g bp cap (crash L V [c]) noV (.tuple #[])) := by
  have hb : Below w1.heap.size w1 (w1.alloc (.cells #[.int .i64 c] 3)) := (Below.refl _ _).alloc (Nat.le_refl _) _
  have h' := h.after hb
  obtain ⟨S0, F0, hS0, h0⟩ := h.h
  have h2 := h0.below hb
  refine (crash_any h2 _ [c] (.inr ⟨w1.heap.size, 0, 1, rfl, by simp, fun i hi => ?_⟩) (fun _ b hb' hs => ?_) (fun x hx => by rw [List.mem_singleton.1 hx]; exact hc) (by simp) hv).mono fun e w' ⟨he, hst, hp⟩ => ⟨he, h'.b.trans (hst.below ?_ h'.b.size), S0, _, ?_, hp⟩
  · obtain rfl : i = 0 := by simpa using hi
    rw [World.cell?_alloc_mark]; rfl
  · have e : w1.heap.size = b := by simpa [Value.ownBlock] using hb'
    have := h0.lt b hs; omega
  all_goals exact hS0
end Go.Proofs.Ytofhmdbilhdblaa

