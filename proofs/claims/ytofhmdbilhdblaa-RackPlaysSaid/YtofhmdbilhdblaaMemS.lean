/- member: members made behind w, their blocks told. -/
import Derived.Test.YtofhmdbilhdblaaMemRot
import Derived.Test.YtofhmdbilhdblaaMemAwake
import Derived.Test.YtofhmdbilhdblaaSl4
namespace Go.Proofs.Ytofhmdbilhdblaa
open Go.RowKit
set_option linter.unusedVariables false
set_option linter.unusedSimpArgs false
set_option maxRecDepth 100000

/-- A member that was made behind w, of the blocks S. -/
structure MS (w : World) (S : Nat → Prop) (w' : World) (m g bp cap : Nat) (fd : Bool) (L : List ByteArray) (V : Int → List ByteArray) : Prop where
  b : Below w.heap.size w w'
  h : ∃ F, (∀ k, S k → w.heap.size ≤ k) ∧ PBox w' S m g bp cap fd L V F
section
variable {w w1 w2 : World} {S S' T T' : Nat → Prop} {m g bp cap m2 g2 bp2 cap2 : Nat} {fd fd2 : Bool} {L L2 : List ByteArray} {V V2 : Int → List ByteArray}
theorem MS.lt (h : MS w S w1 m g bp cap fd L V) : ∀ k, S k → k < w1.heap.size := by
  obtain ⟨F, h1, h2⟩ := h.h
  exact h2.lt
theorem MS.from (h : MS w S w1 m g bp cap fd L V) : ∀ k, S k → w.heap.size ≤ k := by
  obtain ⟨F, h1, h2⟩ := h.h
  exact h1
theorem MS.n2 (h : MS w S w1 m g bp cap fd L V) : L.length ≤ 256 := by
  obtain ⟨F, h1, h2⟩ := h.h
  exact h2.n2
theorem MS.zl (h : MS w S w1 m g bp cap fd L V) : ∀ s ∈ L, s.size = 128 := by
  obtain ⟨F, h1, h2⟩ := h.h
  exact h2.zl
theorem MS.after (h : MS w S w1 m g bp cap fd L V) (hb : Below w1.heap.size w1 w2) : MS w S w2 m g bp cap fd L V := by
  obtain ⟨F, h1, h2⟩ := h.h
  exact ⟨h.b.trans (hb.mono h.b.size), F, h1, h2.below hb⟩
/-- Another's step leaves it. -/
theorem MS.step (h : MS w S w1 m g bp cap fd L V) (hs : Stp T T' w1 w2) (hT : ∀ k, T k → w.heap.size ≤ k) (hST : ∀ k, S k → ¬ T k) : MS w S w2 m g bp cap fd L V ∧ ∀ k, S k → ¬ T' k := by
  obtain ⟨F, h1, h2⟩ := h.h
  exact ⟨⟨h.b.trans (hs.below hT h.b.size), F, h1, h2.heap (fun k hk => hs.oth k (h2.lt k hk) (hST k hk)) hs.b0.size⟩, fun k hk hk2 => by
    rcases hs.grow k hk2 with x | x
    · exact hST k hk x
    · have := h2.lt k hk; omega⟩
theorem MS.setO (h : MS w S w1 m g bp cap fd L V) {x : Nat} (hx : w.heap.size ≤ x) (hS : ¬ S x) (i : Nat) (u : Value) : MS w S (w1.setCell ⟨x, i, none⟩ u) m g bp cap fd L V := by
  obtain ⟨F, h1, h2⟩ := h.h
  exact ⟨h.b.setCell (p := ⟨x, i, none⟩) hx u, F, h1, h2.heap (fun k hk => Below.heap_setCell _ _ _ _ (fun e => hS (by have e2 : k = x := e; rw [← e2]; exact hk))) (by simp)⟩
theorem Own.sameAt {B : Nat} {E : TypeId} {v : Value} {l : List Value} (h : Own w1 B E v l) (hk : ∀ k, v.ownBlock = some k → w2.heap[k]? = w1.heap[k]?) : Own w2 B E v l := by
  refine ⟨h.o.1, ?_⟩
  rcases h.o.2 with h1 | ⟨g, cap, cur, h1, h2, h3, h4⟩
  · exact .inl h1
  · exact .inr ⟨g, cap, cur, h1, h2, by rw [hk g (by rw [h1]; rfl)]; exact h3, h4⟩
theorem Own.step {B x n c : Nat} {E : TypeId} {xs : List Value} (h : Own w1 B E (.slice (some ⟨x, 0, none⟩) n c) xs) (hs : Stp S S' w1 w2) (hx : ¬ S x) : Own w2 B E (.slice (some ⟨x, 0, none⟩) n c) xs :=
  h.sameBlock (hs.oth x h.lt.2 hx)
theorem ms_new (n : Nat) (w : World) (h1 : 1 ≤ n) (h2 : n ≤ 256) : Calls Try.prog 7 #[.int .i64 (n : Int)] w fun e w' => ∃ S m g bp cap, e = .returned (.tuple #[.pointer (some ⟨m, 0, none⟩), .int .i64 0]) ∧ MS w S w' m g bp cap false (List.replicate n zero128) noV :=
  (newm_any n w h1 h2).mono fun e w' ⟨S, m, g, bp, cap, he, hb, hS, hP⟩ => ⟨S, m, g, bp, cap, he, hb, noF, hS, hP⟩
/-- What a call makes of it. -/
def MSs (w : World) (S : Nat → Prop) (w1 : World) (m g bp cap : Nat) (fd : Bool) (L : List ByteArray) (V : Int → List ByteArray) (u : Value) (e : Ending) (w' : World) : Prop := e = .returned u ∧ Stp S S w1 w' ∧ MS w S w' m g bp cap fd L V
theorem MS.made {F : Int → Value} (h : MS w S w1 m g bp cap fd L V) (hs : Stp S S w1 w2) (hp : PBox w2 S m2 g2 bp2 cap2 fd2 L2 V2 F) : MS w S w2 m2 g2 bp2 cap2 fd2 L2 V2 :=
  ⟨h.b.trans (hs.below h.from h.b.size), F, h.from, hp⟩
theorem ms_write (h : MS w S w1 m g bp cap false L V) (i : Nat) (hi : i < L.length) (s : ByteArray) (hs : s.size = 128) (hv : (V i).length ≤ 1000000000000) :
    Calls Try.prog 10 #[.pointer (some ⟨m, 0, none⟩), .int .i64 (i : Int), .string s] w1 fun e w' => ∃ S', e = .returned (.int .i64 0) ∧ Stp S S' w1 w' ∧ MS w S' w' m g bp cap false L (updZ V i (V i ++ [s])) := by
  obtain ⟨F, h1, h2⟩ := h.h
  refine (write_any h2 i hi s hs hv).mono fun e w' ⟨he, S', F', hst, hp⟩ => ⟨S', he, hst, h.b.trans (hst.below h1 h.b.size), F', fun k hk => ?_, hp⟩
  rcases hst.grow k hk with x | x
  · exact h1 k x
  · exact Nat.le_trans h.b.size x
theorem ms_flush (h : MS w S w1 m g bp cap false L V) (hv : ∀ z, (V z).length ≤ 1000000000000) :
    Calls Try.prog 13 #[.pointer (some ⟨m, 0, none⟩)] w1 (MSs w S w1 m g bp cap false (flush L V) noV (.int .i64 0)) := by
  obtain ⟨F, h1, h2⟩ := h.h
  exact (flush_any h2 hv).mono fun e w' ⟨he, hst, hp⟩ => ⟨he, hst, h.made hst hp⟩
theorem ms_crash (h : MS w S w1 m g bp cap fd L V) (vc : Value) (ch : List Int) (hc : Reads w1 vc (ch.map (.int .i64))) (hcS : ch ≠ [] → ∀ b, vc.ownBlock = some b → ¬ S b) (hcI : ∀ c ∈ ch, In64 c) (hcn : ch.length ≤ 140737488355328) (hv : ∀ z, (V z).length ≤ 1000000000000) :
    Calls Try.prog 15 #[.pointer (some ⟨m, 0, none⟩), vc] w1 (MSs w S w1 m g bp cap fd (crash L V ch) noV (.tuple #[])) := by
  obtain ⟨F, h1, h2⟩ := h.h
  exact (crash_any h2 vc ch hc hcS hcI hcn hv).mono fun e w' ⟨he, hst, hp⟩ => ⟨he, hst, h.made hst hp⟩
theorem ms_blank (h : MS w S w1 m g bp cap fd L V) : Calls Try.prog 19 #[.pointer (some ⟨m, 0, none⟩)] w1 (MSs w S w1 m g bp cap false (List.replicate L.length zero128) noV (.tuple #[])) := by
  obtain ⟨F, h1, h2⟩ := h.h
  exact (blank_any h2).mono fun e w' ⟨he, hst, hp⟩ => ⟨he, hst, h.made hst hp⟩
theorem ms_fail (h : MS w S w1 m g bp cap fd L V) : Calls Try.prog 17 #[.pointer (some ⟨m, 0, none⟩)] w1 (MSs w S w1 m g bp cap true (List.replicate L.length zero128) noV (.tuple #[])) := by
  obtain ⟨F, h1, h2⟩ := h.h
  exact (fail_any h2).mono fun e w' ⟨he, hst, hp⟩ => ⟨he, hst, h.made hst hp⟩
theorem ms_rot (h : MS w S w1 m g bp cap fd L V) (n j b : Nat) (hr : rotB fd L V n j b = true) (hnl : n < L.length) (hj : j < 128) (hb : b < 256) :
    Calls Try.prog 21 #[.pointer (some ⟨m, 0, none⟩), .int .i64 (n : Int), .int .i64 (j : Int), .int .i64 (b : Int)] w1 (MSs w S w1 m g bp cap false (L.set n (rotS L[n] j b)) V (.bool true)) := by
  obtain ⟨F, h1, h2⟩ := h.h
  exact (rot_yes h2 n j b hr hnl hj hb).mono fun e w' ⟨he, hst, hp⟩ => ⟨he, hst, h.made hst hp⟩
theorem ms_readd (h : MS w S w1 m g bp cap true L V) (n : Int) : Calls Try.prog 23 #[.pointer (some ⟨m, 0, none⟩), .int .i64 n] w1 fun e w' => e = .returned (.tuple #[.string ⟨#[]⟩, .int .i64 80]) ∧ w1 = w' := by
  obtain ⟨F, h1, h2⟩ := h.h
  exact read_dead h2 n
theorem ms_readr (h : MS w S w1 m g bp cap false L V) (n : Int) (hn : hasN L n = false) : Calls Try.prog 23 #[.pointer (some ⟨m, 0, none⟩), .int .i64 n] w1 fun e w' => e = .returned (.tuple #[.string ⟨#[]⟩, .int .i64 81]) ∧ w1 = w' := by
  obtain ⟨F, h1, h2⟩ := h.h
  exact read_range h2 n hn
theorem ms_read (h : MS w S w1 m g bp cap false L V) (i : Nat) (hi : i < L.length) (hv : (V i).length ≤ 1000000000000) : Calls Try.prog 23 #[.pointer (some ⟨m, 0, none⟩), .int .i64 (i : Int)] w1 (GivesR w1 (lastOf (V i) L[i]) 0) := by
  obtain ⟨F, h1, h2⟩ := h.h
  exact read_any h2 i hi (by omega)
theorem ms_writed (h : MS w S w1 m g bp cap true L V) (n : Int) (s : ByteArray) : Calls Try.prog 10 #[.pointer (some ⟨m, 0, none⟩), .int .i64 n, .string s] w1 fun e w' => e = .returned (.int .i64 80) ∧ w1 = w' := by
  obtain ⟨F, h1, h2⟩ := h.h
  exact write_dead h2 n s
theorem ms_writer (h : MS w S w1 m g bp cap false L V) (n : Int) (s : ByteArray) (hn : hasN L n = false ∨ s.size ≠ 128) : Calls Try.prog 10 #[.pointer (some ⟨m, 0, none⟩), .int .i64 n, .string s] w1 fun e w' => e = .returned (.int .i64 81) ∧ w1 = w' := by
  obtain ⟨F, h1, h2⟩ := h.h
  exact write_range h2 n s hn
theorem ms_flushd (h : MS w S w1 m g bp cap true L V) : Calls Try.prog 13 #[.pointer (some ⟨m, 0, none⟩)] w1 fun e w' => e = .returned (.int .i64 80) ∧ w1 = w' := by
  obtain ⟨F, h1, h2⟩ := h.h
  exact flush_dead h2
theorem ms_pend (h : MS w S w1 m g bp cap fd L V) : Calls Try.prog 32 #[.pointer (some ⟨m, 0, none⟩)] w1 (GivesP w1 (pend L.length V)) := by
  obtain ⟨F, h1, h2⟩ := h.h
  exact pend_any h2
theorem ms_vers (h : MS w S w1 m g bp cap fd L V) (n : Int) (hn : In64 n) : Calls Try.prog 29 #[.pointer (some ⟨m, 0, none⟩), .int .i64 n] w1 fun e w' => e = .returned (.int .i64 ((V n).length : Int)) ∧ w1 = w' := by
  obtain ⟨F, h1, h2⟩ := h.h
  exact vers_any h2 n hn
theorem ms_size (h : MS w S w1 m g bp cap fd L V) : Calls Try.prog 27 #[.pointer (some ⟨m, 0, none⟩)] w1 fun e w' => e = .returned (.int .i64 (L.length : Int)) ∧ w1 = w' := by
  obtain ⟨F, h1, h2⟩ := h.h
  exact size_any h2
theorem ms_alive (h : MS w S w1 m g bp cap fd L V) : Calls Try.prog 25 #[.pointer (some ⟨m, 0, none⟩)] w1 fun e w' => e = .returned (.bool (!fd)) ∧ w1 = w' := by
  obtain ⟨F, h1, h2⟩ := h.h
  exact alive_any h2
theorem ms_image (h : MS w S w1 m g bp cap false L V) : Calls Try.prog 35 #[.pointer (some ⟨m, 0, none⟩)] w1 (GivesI w1 L) := by
  obtain ⟨F, h1, h2⟩ := h.h
  exact image_any h2
theorem ms_imaged (h : MS w S w1 m g bp cap true L V) : Calls Try.prog 35 #[.pointer (some ⟨m, 0, none⟩)] w1 fun e w' => e = .returned (.slice none 0 0) ∧ w1 = w' := by
  obtain ⟨F, h1, h2⟩ := h.h
  exact image_dead h2
theorem ms_rotn (h : MS w S w1 m g bp cap fd L V) (n at_ bits : Int) (hn : In64 n) (hr : rotB fd L V n at_ bits = false) : Calls Try.prog 21 #[.pointer (some ⟨m, 0, none⟩), .int .i64 n, .int .i64 at_, .int .i64 bits] w1 fun e w' => e = .returned (.bool false) ∧ w1 = w' := by
  obtain ⟨F, h1, h2⟩ := h.h
  exact rot_no h2 n at_ bits hn hr
end
end Go.Proofs.Ytofhmdbilhdblaa
