/- member: what each call does, of both members, whatever is asked. -/
import Derived.Test.YtofhmdbilhdblaaMemQ6
namespace Go.Proofs.Ytofhmdbilhdblaa
open Go.RowKit
set_option linter.unusedVariables false
set_option linter.unusedSimpArgs false

set_option maxRecDepth 100000 in
set_option maxHeartbeats 1000000 in
theorem ints8_any (va vb : Value) (a b : List Int) (w : World) (hA : Reads w va (a.map (.int .i64))) (hB : Reads w vb (b.map (.int .i64))) (fan : a.length ≤ 140737488355328) (fbn : b.length ≤ 140737488355328) :
    Calls Try.prog 31 #[va, vb] w (SaysB w (decide (a = b))) := by
  have la := fun W => hA.len_run (P := Try.prog) Try.underlying31 3 W
  have lb := fun W => hB.len_run (P := Try.prog) Try.underlying31 3 W
  rw [List.length_map] at la lb
  by_cases h1 : a.length = b.length
  · have t1 : (((a.length : Nat) : Int) != ((b.length : Nat) : Int)) = false := by rw [h1]; exact bne_self_eq_false _
    have h1' := Lib.hid h1
    obtain ⟨pa, ca, rfl, cellA⟩ := hA.items
    obtain ⟨pb, cb, rfl, cellB⟩ := hB.items
    clear h1 la lb hA hB
    go_enter Try.func31, Try.ntmps31
    go_wp2_with (fail)
    go_loopw [5] (fun i wr => ∃ k : Nat, k ≤ a.length ∧ i = .int .i64 (k : Int) ∧ Quiet w wr ∧ Hid (∀ j (h1 : j < a.length) (h2 : j < b.length), j < k → a[j] = b[j])) (fun i _ => a.length - (intOf i).toNat)
    case atStart => exact ⟨0, by omega, rfl, Quiet.refl _, Lib.hid (fun j _ _ hj => by omega)⟩
    case round =>
      obtain ⟨k, hk, rfl, hq, hj⟩ := hrel
      rename World => wr
      by_cases hlt : k < a.length
      · have hltb : k < b.length := by have := h1'.out; omega
        obtain ⟨xb, xo, rfl, hxb, hxc⟩ := cellA k hlt
        obtain ⟨yb, yo, rfl, hyb, hyc⟩ := cellB k hltb
        have hca : wr.cell? ⟨xb, xo + k, none⟩ = some (.int .i64 a[k]) := by rw [hq.cell]; exact hxc
        have hcb : wr.cell? ⟨yb, yo + k, none⟩ = some (.int .i64 b[k]) := by rw [hq.cell]; exact hyc
        have b1 : (k : Int) < (a.length : Int) := by omega
        have b2 : (k : Int) < (b.length : Int) := by omega
        clear hxc hyc
        by_cases he : a[k] = b[k]
        · have hj' : Hid (∀ j (h1 : j < a.length) (h2 : j < b.length), j < k + 1 → a[j] = b[j]) := Lib.hid (fun j h1 h2 hjk => by
            by_cases e : j = k
            · subst e; exact he
            · exact hj.out j h1 h2 (by omega))
          rw [← he] at hcb
          have tq' : (a[k] != a[k]) = false := bne_self_eq_false _
          clear he hj
          generalize a[k] = rk at *
          go_wp2
          go_quiet (fail)
          go_wp2
          go_roundw
          case rel => exact ⟨k + 1, by omega, by go_num, hq.drewN _, hj'⟩
          case measure => simp [intOf]; omega
        · have hz : Hid (decide (a = b) = false) := Lib.hid (by
            rw [decide_eq_false_iff_not]
            intro e; subst e; exact he rfl)
          have tq' : (a[k] != b[k]) = true := by rw [bne_iff_ne]; exact he
          have tq : (a[k] == b[k]) = false := by rw [beq_eq_false_iff_ne]; exact he
          clear he hj
          generalize a[k] = rk at *
          generalize b[k] = qk at *
          go_wp2
          go_quiet (fail)
          go_wp2
          go_ret
          exact ⟨by rw [hz.out]; rfl, (hq.drewN _).1, (hq.drewN _).2⟩
      · have hz : Hid (decide (a = b) = true) := Lib.hid (by
          rw [decide_eq_true_eq]
          exact List.ext_getElem h1'.out fun i h2 h3 => hj.out i h2 h3 (by omega))
        obtain rfl : k = a.length := by omega
        clear hj
        go_wp2
        go_ret
        exact ⟨by rw [hz.out]; rfl, hq.1, hq.2⟩
  · have t1 : (((a.length : Nat) : Int) != ((b.length : Nat) : Int)) = true := by rw [bne_iff_ne]; omega
    have hz : Hid (decide (a = b) = false) := Lib.hid (by
      rw [decide_eq_false_iff_not]
      intro e; exact h1 (by rw [e]))
    clear h1
    go_enter Try.func31, Try.ntmps31
    go_wp2
    go_ret
    exact ⟨by rw [hz.out]; rfl, Below.refl _ _, rfl⟩
def MA (w : World) (S : Nat → Prop) (w' : World) (m : Nat) (M : Mst) : Prop := ∃ g bp cap, MS w S w' m g bp cap M.fd M.L M.V
def QA (w : World) (S : Nat → Prop) (w' : World) (m : Nat) (M : Mst) : Prop := QS w S w' m M.fd M.L M.V
def VOk (M : Mst) : Prop := ∀ z, (M.V z).length ≤ 1000000000000
theorem hasN_nat {L : List ByteArray} {n : Int} (h : hasN L n = true) : ∃ i : Nat, n = (i : Int) ∧ i < L.length := by
  unfold hasN at h
  rw [Bool.and_eq_true, decide_eq_true_iff, decide_eq_true_iff] at h
  obtain ⟨i, rfl⟩ := Int.eq_ofNat_of_zero_le h.1
  exact ⟨i, rfl, by omega⟩
def wrE (M : Mst) (n : Int) (s : ByteArray) : Int := if M.fd = true then 80 else if hasN M.L n = true ∧ s.size = 128 then 0 else 81
def wrM (M : Mst) (n : Int) (s : ByteArray) : Mst := if M.fd = false ∧ hasN M.L n = true ∧ s.size = 128 then ⟨M.fd, M.L, updZ M.V n (M.V n ++ [s])⟩ else M
def flE (M : Mst) : Int := if M.fd = true then 80 else 0
def flM (M : Mst) : Mst := if M.fd = true then M else ⟨false, flush M.L M.V, noV⟩
def crM (M : Mst) (ch : List Int) : Mst := ⟨M.fd, crash M.L M.V ch, noV⟩
def blM (M : Mst) : Mst := ⟨false, List.replicate M.L.length zero128, noV⟩
def faM (M : Mst) : Mst := ⟨true, List.replicate M.L.length zero128, noV⟩
def roM (M : Mst) (n at_ bits : Int) : Mst := if rotB M.fd M.L M.V n at_ bits = true then ⟨false, M.L.set n.toNat (rotS (M.L.getD n.toNat zero128) at_.toNat bits.toNat), M.V⟩ else M
def rdS (M : Mst) (n : Int) : ByteArray := if M.fd = true then ⟨#[]⟩ else if hasN M.L n = true then lastOf (M.V n) (M.L.getD n.toNat zero128) else ⟨#[]⟩
def rdE (M : Mst) (n : Int) : Int := if M.fd = true then 80 else if hasN M.L n = true then 0 else 81
def imL (M : Mst) : List ByteArray := if M.fd = true then [] else M.L
theorem rotB_nat {fd : Bool} {L : List ByteArray} {V : Int → List ByteArray} {n at_ bits : Int} (h : rotB fd L V n at_ bits = true) : fd = false ∧ ∃ i j b : Nat, n = (i : Int) ∧ at_ = (j : Int) ∧ bits = (b : Int) ∧ i < L.length ∧ j < 128 ∧ b < 256 := by
  have h' := h
  unfold rotB at h
  simp only [Bool.not_eq_true', Bool.or_eq_false_iff, Bool.not_eq_false', decide_eq_false_iff_not] at h
  obtain ⟨h0, hh, hv, h1, h2, h3, h4⟩ := h
  obtain ⟨i, rfl, hi⟩ := hasN_nat hh
  obtain ⟨j, rfl⟩ := Int.eq_ofNat_of_zero_le (show 0 ≤ at_ by omega)
  obtain ⟨b, rfl⟩ := Int.eq_ofNat_of_zero_le (show 0 ≤ bits by omega)
  exact ⟨h0, i, j, b, rfl, rfl, rfl, hi, by omega, by omega⟩
/-- How long what is pending may be. -/
def Vn (M : Mst) (n : Nat) : Prop := ∀ z, (M.V z).length ≤ n
theorem Vn.wr {M : Mst} {n : Nat} (h : Vn M n) (z : Int) (s : ByteArray) : Vn (wrM M z s) (n + 1) := fun y => by
  unfold wrM
  split
  · show (updZ M.V z (M.V z ++ [s]) y).length ≤ n + 1
    unfold updZ
    split
    · rw [List.length_append]; have := h z; simp; omega
    · have := h y; omega
  · have := h y; omega
theorem Vn.le {M : Mst} {n k : Nat} (h : Vn M n) (hk : n ≤ k) : Vn M k := fun y => Nat.le_trans (h y) hk
theorem Vn.fl {M : Mst} {n : Nat} (h : Vn M n) : Vn (flM M) n := fun y => by
  unfold flM; split
  · exact h y
  · exact Nat.zero_le _
theorem Vn.ro {M : Mst} {n : Nat} (h : Vn M n) (a b c : Int) : Vn (roM M a b c) n := fun y => by
  unfold roM; split <;> exact h y
theorem Vn.none (fd : Bool) (L : List ByteArray) (n : Nat) : Vn ⟨fd, L, noV⟩ n := fun y => Nat.zero_le _
section
variable {w w1 w2 : World} {S T T' : Nat → Prop} {m : Nat} {M : Mst}
theorem MA.lt (h : MA w S w1 m M) : ∀ k, S k → k < w1.heap.size := by obtain ⟨g, bp, cap, h⟩ := h; exact h.lt
theorem MA.from (h : MA w S w1 m M) : ∀ k, S k → w.heap.size ≤ k := by obtain ⟨g, bp, cap, h⟩ := h; exact h.from
theorem MA.b (h : MA w S w1 m M) : Below w.heap.size w w1 := by obtain ⟨g, bp, cap, h⟩ := h; exact h.b
theorem MA.after (h : MA w S w1 m M) (hb : Below w1.heap.size w1 w2) : MA w S w2 m M := by obtain ⟨g, bp, cap, h⟩ := h; exact ⟨g, bp, cap, h.after hb⟩
theorem MA.step (h : MA w S w1 m M) (hs : Stp T T' w1 w2) (hT : ∀ k, T k → w.heap.size ≤ k) (hST : ∀ k, S k → ¬ T k) : MA w S w2 m M ∧ ∀ k, S k → ¬ T' k := by
  obtain ⟨g, bp, cap, h⟩ := h
  obtain ⟨h1, h2⟩ := h.step hs hT hST
  exact ⟨⟨g, bp, cap, h1⟩, h2⟩
theorem MA.n2 (h : MA w S w1 m M) : M.L.length ≤ 256 := by obtain ⟨g, bp, cap, h⟩ := h; exact h.n2
theorem QA.lt (h : QA w S w1 m M) : ∀ k, S k → k < w1.heap.size := by obtain ⟨q, cap, F, h1, h2⟩ := h.h; exact h2.lt
theorem QA.from (h : QA w S w1 m M) : ∀ k, S k → w.heap.size ≤ k := by obtain ⟨q, cap, F, h1, h2⟩ := h.h; exact h1
theorem QA.after (h : QA w S w1 m M) (hb : Below w1.heap.size w1 w2) : QA w S w2 m M := by
  obtain ⟨q, cap, F, h1, h2⟩ := h.h
  exact ⟨QS.b h |>.trans (hb.mono (QS.b h).size), q, cap, F, h1, h2.below hb⟩
theorem QA.step (h : QA w S w1 m M) (hs : Stp T T' w1 w2) (hT : ∀ k, T k → w.heap.size ≤ k) (hST : ∀ k, S k → ¬ T k) : QA w S w2 m M ∧ ∀ k, S k → ¬ T' k := by
  obtain ⟨q, cap, F, h1, h2⟩ := h.h
  exact ⟨⟨(QS.b h).trans (hs.below hT (QS.b h).size), q, cap, F, h1, h2.heap (fun k hk => hs.oth k (h2.lt k hk) (hST k hk)) hs.b0.size⟩, fun k hk hk2 => by
    rcases hs.grow k hk2 with x | x
    · exact hST k hk x
    · have := h2.lt k hk; omega⟩
theorem QA.made (h : QA w S w1 m M) {fd : Bool} {L : List ByteArray} {V : Int → List ByteArray} (hq : QStep w1 S m fd L V w2) : ∃ S', Stp S S' w1 w2 ∧ QA w S' w2 m ⟨fd, L, V⟩ := by
  obtain ⟨S', q, cap, F, hs, hb⟩ := hq
  refine ⟨S', hs, ⟨(QS.b h).trans (hs.below (QA.from h) (QS.b h).size), q, cap, F, fun k hk => ?_, hb⟩⟩
  rcases hs.grow k hk with x | x
  · exact QA.from h k x
  · exact Nat.le_trans (QS.b h).size x
end
/-- What a call leaves: a value, and the member as it is then. -/
def MDoes (w : World) (S : Nat → Prop) (w1 : World) (m : Nat) (M : Mst) (u : Value) (e : Ending) (w' : World) : Prop := e = .returned u ∧ ∃ S', Stp S S' w1 w' ∧ MA w S' w' m M
def QDoes (w : World) (S : Nat → Prop) (w1 : World) (m : Nat) (M : Mst) (u : Value) (e : Ending) (w' : World) : Prop := e = .returned u ∧ ∃ S', Stp S S' w1 w' ∧ QA w S' w' m M
section
variable {w w1 : World} {S : Nat → Prop} {m : Nat} {M : Mst}
theorem ma_new (n : Nat) (w : World) (h1 : 1 ≤ n) (h2 : n ≤ 256) : Calls Try.prog 7 #[.int .i64 (n : Int)] w fun e w' => ∃ S m, e = .returned (.tuple #[.pointer (some ⟨m, 0, none⟩), .int .i64 0]) ∧ MA w S w' m ⟨false, List.replicate n zero128, noV⟩ :=
  (ms_new n w h1 h2).mono fun e w' ⟨S, m, g, bp, cap, he, h⟩ => ⟨S, m, he, g, bp, cap, h⟩
theorem ma_write (h : MA w S w1 m M) (n : Int) (s : ByteArray) (hv : VOk M) :
    Calls Try.prog 10 #[.pointer (some ⟨m, 0, none⟩), .int .i64 n, .string s] w1 (MDoes w S w1 m (wrM M n s) (.int .i64 (wrE M n s))) := by
  obtain ⟨g, bp, cap, h'⟩ := h
  obtain ⟨fd, L, V⟩ := M
  unfold wrE wrM
  cases fd with
  | true =>
    rw [if_neg (by simp), if_pos rfl]
    exact (ms_writed h' n s).mono fun e w' ⟨he, hw⟩ => by subst hw; exact ⟨he, S, Stp.refl _ _, g, bp, cap, h'⟩
  | false =>
    by_cases hc : hasN L n = true ∧ s.size = 128
    · obtain ⟨i, rfl, hi⟩ := hasN_nat hc.1
      rw [if_pos ⟨rfl, hc⟩, if_neg (by simp), if_pos hc]
      exact (ms_write h' i hi s hc.2 (hv i)).mono fun e w' ⟨S', he, hs, hm⟩ => ⟨he, S', hs, g, bp, cap, hm⟩
    · rw [if_neg (fun x => hc x.2), if_neg (by simp), if_neg hc]
      exact (ms_writer h' n s (by
        cases e : hasN L n
        · exact .inl rfl
        · exact .inr fun x => hc ⟨e, x⟩)).mono fun e w' ⟨he, hw⟩ => by subst hw; exact ⟨he, S, Stp.refl _ _, g, bp, cap, h'⟩
theorem qa_write (h : QA w S w1 m M) (n : Int) (s : ByteArray) (hv : VOk M) (hsz : s.size ≤ 140737488355328) :
    Calls Try.prog 12 #[.pointer (some ⟨m, 0, none⟩), .int .i64 n, .string s] w1 (QDoes w S w1 m (wrM M n s) (.int .i64 (wrE M n s))) := by
  obtain ⟨q, cap, F, h1, hb⟩ := h.h
  obtain ⟨fd, L, V⟩ := M
  unfold wrE wrM
  cases fd with
  | true =>
    rw [if_neg (by simp), if_pos rfl]
    exact (qwrite_dead hb n s).mono fun e w' ⟨he, hw⟩ => by subst hw; exact ⟨he, S, Stp.refl _ _, h⟩
  | false =>
    by_cases hc : hasN L n = true ∧ s.size = 128
    · obtain ⟨i, rfl, hi⟩ := hasN_nat hc.1
      rw [if_pos ⟨rfl, hc⟩, if_neg (by simp), if_pos hc]
      exact (qwrite_any hb i hi s hc.2 (hv i)).mono fun e w' ⟨he, hq⟩ => ⟨he, h.made hq⟩
    · rw [if_neg (fun x => hc x.2), if_neg (by simp), if_neg hc]
      exact (qwrite_range hb n s (by
        cases e : hasN L n
        · exact .inl e
        · exact .inr fun x => hc ⟨e, x⟩) hsz).mono fun e w' ⟨he, hw⟩ => by subst hw; exact ⟨he, S, Stp.refl _ _, h⟩
theorem ma_flush (h : MA w S w1 m M) (hv : VOk M) :
    Calls Try.prog 13 #[.pointer (some ⟨m, 0, none⟩)] w1 (MDoes w S w1 m (flM M) (.int .i64 (flE M))) := by
  obtain ⟨g, bp, cap, h'⟩ := h
  obtain ⟨fd, L, V⟩ := M
  unfold flE flM
  cases fd with
  | true => exact (ms_flushd h').mono fun e w' ⟨he, hw⟩ => by subst hw; exact ⟨he, S, Stp.refl _ _, g, bp, cap, h'⟩
  | false => exact (ms_flush h' hv).mono fun e w' ⟨he, hs, hm⟩ => ⟨he, S, hs, g, bp, cap, hm⟩
theorem qa_flush (h : QA w S w1 m M) (hv : VOk M) :
    Calls Try.prog 14 #[.pointer (some ⟨m, 0, none⟩)] w1 (QDoes w S w1 m (flM M) (.int .i64 (flE M))) := by
  obtain ⟨q, cap, F, h1, hb⟩ := h.h
  obtain ⟨fd, L, V⟩ := M
  unfold flE flM
  cases fd with
  | true => exact (qflush_dead hb).mono fun e w' ⟨he, hw⟩ => by subst hw; exact ⟨he, S, Stp.refl _ _, h⟩
  | false => exact (qflush_any hb hv).mono fun e w' ⟨he, hq⟩ => ⟨he, h.made hq⟩
theorem ma_crash (h : MA w S w1 m M) (vc : Value) (ch : List Int) (hc : Reads w1 vc (ch.map (.int .i64))) (hcS : ch ≠ [] → ∀ b, vc.ownBlock = some b → ¬ S b) (hcI : ∀ c ∈ ch, In64 c) (hcn : ch.length ≤ 140737488355328) (hv : VOk M) :
    Calls Try.prog 15 #[.pointer (some ⟨m, 0, none⟩), vc] w1 (MDoes w S w1 m (crM M ch) (.tuple #[])) := by
  obtain ⟨g, bp, cap, h'⟩ := h
  exact (ms_crash h' vc ch hc hcS hcI hcn hv).mono fun e w' ⟨he, hs, hm⟩ => ⟨he, S, hs, g, bp, cap, hm⟩
theorem qa_crash (h : QA w S w1 m M) (vc : Value) (ch : List Int) (hc : Reads w1 vc (ch.map (.int .i64))) (hcS : ch ≠ [] → ∀ b, vc.ownBlock = some b → ¬ S b) (hcI : ∀ c ∈ ch, In64 c) (hcn : ch.length ≤ 140737488355328) (hv : VOk M) :
    Calls Try.prog 16 #[.pointer (some ⟨m, 0, none⟩), vc] w1 (QDoes w S w1 m (crM M ch) (.tuple #[])) := by
  obtain ⟨q, cap, F, h1, hb⟩ := h.h
  exact (qcrash_any hb vc ch hc hcS hcI hcn hv).mono fun e w' ⟨he, hq⟩ => ⟨he, h.made hq⟩
theorem ma_blank (h : MA w S w1 m M) : Calls Try.prog 19 #[.pointer (some ⟨m, 0, none⟩)] w1 (MDoes w S w1 m (blM M) (.tuple #[])) := by
  obtain ⟨g, bp, cap, h'⟩ := h
  exact (ms_blank h').mono fun e w' ⟨he, hs, hm⟩ => ⟨he, S, hs, g, bp, cap, hm⟩
theorem qa_blank (h : QA w S w1 m M) : Calls Try.prog 20 #[.pointer (some ⟨m, 0, none⟩)] w1 (QDoes w S w1 m (blM M) (.tuple #[])) := by
  obtain ⟨q, cap, F, h1, hb⟩ := h.h
  exact (qblankm_any hb).mono fun e w' ⟨he, hq⟩ => ⟨he, h.made hq⟩
theorem ma_fail (h : MA w S w1 m M) : Calls Try.prog 17 #[.pointer (some ⟨m, 0, none⟩)] w1 (MDoes w S w1 m (faM M) (.tuple #[])) := by
  obtain ⟨g, bp, cap, h'⟩ := h
  exact (ms_fail h').mono fun e w' ⟨he, hs, hm⟩ => ⟨he, S, hs, g, bp, cap, hm⟩
theorem qa_fail (h : QA w S w1 m M) : Calls Try.prog 18 #[.pointer (some ⟨m, 0, none⟩)] w1 (QDoes w S w1 m (faM M) (.tuple #[])) := by
  obtain ⟨q, cap, F, h1, hb⟩ := h.h
  exact (qfail_any hb).mono fun e w' ⟨he, hq⟩ => ⟨he, h.made hq⟩
theorem ma_rot (h : MA w S w1 m M) (n at_ bits : Int) (hn : In64 n) : Calls Try.prog 21 #[.pointer (some ⟨m, 0, none⟩), .int .i64 n, .int .i64 at_, .int .i64 bits] w1 (MDoes w S w1 m (roM M n at_ bits) (.bool (rotB M.fd M.L M.V n at_ bits))) := by
  obtain ⟨g, bp, cap, h'⟩ := h
  obtain ⟨fd, L, V⟩ := M
  unfold roM
  cases hr : rotB fd L V n at_ bits with
  | false =>
    rw [if_neg (by simp)]
    exact (ms_rotn h' n at_ bits hn hr).mono fun e w' ⟨he, hw⟩ => by subst hw; exact ⟨he, S, Stp.refl _ _, g, bp, cap, h'⟩
  | true =>
    obtain ⟨rfl, i, j, b, rfl, rfl, rfl, hi, hj, hb⟩ := rotB_nat hr
    rw [if_pos rfl, Int.toNat_natCast, Int.toNat_natCast, Int.toNat_natCast]
    dsimp only
    rw [List.getD_eq_getElem?_getD, List.getElem?_eq_getElem hi]
    exact (ms_rot h' i j b hr hi hj hb).mono fun e w' ⟨he, hs, hm⟩ => ⟨he, S, hs, g, bp, cap, hm⟩
theorem qa_rot (h : QA w S w1 m M) (n at_ bits : Int) : Calls Try.prog 22 #[.pointer (some ⟨m, 0, none⟩), .int .i64 n, .int .i64 at_, .int .i64 bits] w1 (QDoes w S w1 m (roM M n at_ bits) (.bool (rotB M.fd M.L M.V n at_ bits))) := by
  obtain ⟨q, cap, F, h1, hb⟩ := h.h
  obtain ⟨fd, L, V⟩ := M
  unfold roM
  cases hr : rotB fd L V n at_ bits with
  | false =>
    rw [if_neg (by simp)]
    exact (qrot_no hb n at_ bits hr).mono fun e w' ⟨he, hw⟩ => by subst hw; exact ⟨he, S, Stp.refl _ _, h⟩
  | true =>
    obtain ⟨rfl, i, j, b, rfl, rfl, rfl, hi, hj, hb2⟩ := rotB_nat hr
    rw [if_pos rfl, Int.toNat_natCast, Int.toNat_natCast, Int.toNat_natCast]
    dsimp only
    rw [List.getD_eq_getElem?_getD, List.getElem?_eq_getElem hi]
    exact (qrot_yes hb i j b hr hi hj hb2).mono fun e w' ⟨he, hq⟩ => ⟨he, h.made hq⟩
theorem ma_read (h : MA w S w1 m M) (n : Int) (hv : VOk M) : Calls Try.prog 23 #[.pointer (some ⟨m, 0, none⟩), .int .i64 n] w1 fun e w' => e = .returned (.tuple #[.string (rdS M n), .int .i64 (rdE M n)]) ∧ Below w1.heap.size w1 w' := by
  obtain ⟨g, bp, cap, h'⟩ := h
  obtain ⟨fd, L, V⟩ := M
  unfold rdS rdE
  cases fd with
  | true => exact (ms_readd h' n).mono fun e w' ⟨he, hw⟩ => by subst hw; exact ⟨he, Below.refl _ _⟩
  | false =>
    by_cases hc : hasN L n = true
    · obtain ⟨i, rfl, hi⟩ := hasN_nat hc
      rw [if_neg (by simp), if_pos hc, if_neg (by simp), if_pos hc, Int.toNat_natCast]
      dsimp only
      rw [List.getD_eq_getElem?_getD, List.getElem?_eq_getElem hi]
      exact (ms_read h' i hi (hv i)).mono fun e w' ⟨he, hb⟩ => ⟨he, hb⟩
    · rw [if_neg (by simp), if_neg hc, if_neg (by simp), if_neg hc]
      exact (ms_readr h' n (by cases e : hasN L n; rfl; exact absurd e hc)).mono fun e w' ⟨he, hw⟩ => by subst hw; exact ⟨he, Below.refl _ _⟩
theorem qa_read (h : QA w S w1 m M) (n : Int) (hv : VOk M) : Calls Try.prog 24 #[.pointer (some ⟨m, 0, none⟩), .int .i64 n] w1 fun e w' => e = .returned (.tuple #[.string (rdS M n), .int .i64 (rdE M n)]) ∧ w1 = w' := by
  obtain ⟨q, cap, F, h1, hb⟩ := h.h
  obtain ⟨fd, L, V⟩ := M
  unfold rdS rdE
  cases fd with
  | true => exact qread_dead hb n
  | false =>
    by_cases hc : hasN L n = true
    · obtain ⟨i, rfl, hi⟩ := hasN_nat hc
      rw [if_neg (by simp), if_pos hc, if_neg (by simp), if_pos hc, Int.toNat_natCast]
      dsimp only
      rw [List.getD_eq_getElem?_getD, List.getElem?_eq_getElem hi]
      exact qread_any hb i hi (hv i)
    · rw [if_neg (by simp), if_neg hc, if_neg (by simp), if_neg hc]
      exact qread_range hb n (by cases e : hasQ L n; rfl; exact absurd e hc)
theorem ma_pend (h : MA w S w1 m M) : Calls Try.prog 32 #[.pointer (some ⟨m, 0, none⟩)] w1 (GivesP w1 (pend M.L.length M.V)) := by
  obtain ⟨g, bp, cap, h'⟩ := h
  exact ms_pend h'
theorem qa_pend (h : QA w S w1 m M) : Calls Try.prog 33 #[.pointer (some ⟨m, 0, none⟩)] w1 (GivesP w1 (pend M.L.length M.V)) := by
  obtain ⟨q, cap, F, h1, hb⟩ := h.h
  exact qpend_any hb
theorem ma_vers (h : MA w S w1 m M) (n : Int) (hn : In64 n) : Calls Try.prog 29 #[.pointer (some ⟨m, 0, none⟩), .int .i64 n] w1 fun e w' => e = .returned (.int .i64 ((M.V n).length : Int)) ∧ w1 = w' := by
  obtain ⟨g, bp, cap, h'⟩ := h
  exact ms_vers h' n hn
theorem qa_vers (h : QA w S w1 m M) (n : Int) : Calls Try.prog 30 #[.pointer (some ⟨m, 0, none⟩), .int .i64 n] w1 fun e w' => e = .returned (.int .i64 ((M.V n).length : Int)) ∧ w1 = w' := by
  obtain ⟨q, cap, F, h1, hb⟩ := h.h
  exact qvers_any hb n
theorem ma_size (h : MA w S w1 m M) : Calls Try.prog 27 #[.pointer (some ⟨m, 0, none⟩)] w1 fun e w' => e = .returned (.int .i64 (M.L.length : Int)) ∧ w1 = w' := by
  obtain ⟨g, bp, cap, h'⟩ := h
  exact ms_size h'
theorem qa_size (h : QA w S w1 m M) : Calls Try.prog 28 #[.pointer (some ⟨m, 0, none⟩)] w1 fun e w' => e = .returned (.int .i64 (M.L.length : Int)) ∧ w1 = w' := by
  obtain ⟨q, cap, F, h1, hb⟩ := h.h
  exact qsize_any hb
theorem ma_alive (h : MA w S w1 m M) : Calls Try.prog 25 #[.pointer (some ⟨m, 0, none⟩)] w1 fun e w' => e = .returned (.bool (!M.fd)) ∧ w1 = w' := by
  obtain ⟨g, bp, cap, h'⟩ := h
  exact ms_alive h'
theorem qa_alive (h : QA w S w1 m M) : Calls Try.prog 26 #[.pointer (some ⟨m, 0, none⟩)] w1 fun e w' => e = .returned (.bool (!M.fd)) ∧ w1 = w' := by
  obtain ⟨q, cap, F, h1, hb⟩ := h.h
  exact qalive_any hb
theorem ma_image (h : MA w S w1 m M) : Calls Try.prog 35 #[.pointer (some ⟨m, 0, none⟩)] w1 (GivesQ w1 (imL M)) := by
  obtain ⟨g, bp, cap, h'⟩ := h
  obtain ⟨fd, L, V⟩ := M
  unfold imL
  cases fd with
  | true => exact (ms_imaged h').mono fun e w' ⟨he, hw⟩ => by subst hw; exact ⟨_, he, Below.refl _ _, Own.nil _ _ _⟩
  | false => exact (ms_image h').mono fun e w' ⟨x, he, hb, ho⟩ => ⟨_, he, hb, ho⟩
theorem qa_image (h : QA w S w1 m M) : Calls Try.prog 36 #[.pointer (some ⟨m, 0, none⟩)] w1 (GivesQ w1 (imL M)) := by
  obtain ⟨q, cap, F, h1, hb⟩ := h.h
  obtain ⟨fd, L, V⟩ := M
  unfold imL
  cases fd with
  | true => exact (qimage_dead hb).mono fun e w' ⟨he, hw⟩ => by subst hw; exact ⟨_, he, Below.refl _ _, Own.nil _ _ _⟩
  | false => exact qimage_any hb
end
end Go.Proofs.Ytofhmdbilhdblaa
