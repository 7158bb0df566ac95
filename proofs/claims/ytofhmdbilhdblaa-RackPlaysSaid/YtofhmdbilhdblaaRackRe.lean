/- rack: Restart. -/
import Derived.Test.YtofhmdbilhdblaaRackNew
namespace Go.Proofs.Ytofhmdbilhdblaa
open Go.RowKit
set_option linter.unusedVariables false
set_option linter.unusedSimpArgs false
set_option maxRecDepth 100000

/-- Choices as they lie. -/
structure ChR (w : World) (vv : Value) (l : List (Value × List Int)) : Prop where
  o : Reads w vv (l.map Prod.fst)
  c : ∀ x ∈ l, Reads w x.1 (x.2.map (.int .i64)) ∧ (∀ c ∈ x.2, In64 c) ∧ x.2.length ≤ 140737488355328
/-- None of its blocks is in S. -/
def ChA (vv : Value) (l : List (Value × List Int)) (S : Nat → Prop) : Prop := (l ≠ [] → ∀ b, vv.ownBlock = some b → ¬ S b) ∧ ∀ x ∈ l, x.2 ≠ [] → ∀ b, x.1.ownBlock = some b → ¬ S b
theorem Reads.at' {w w' : World} {v : Value} {xs : List Value} (h : Reads w v xs) (hk : xs ≠ [] → ∀ b, v.ownBlock = some b → b < w.heap.size → w'.heap[b]? = w.heap[b]?) (hs : w.heap.size ≤ w'.heap.size) : Reads w' v xs := by
  by_cases e : xs = []
  · rcases h with x | ⟨b, off, c, x, _, _⟩
    · exact .inl x
    · rw [e] at x; exact .inl ⟨⟨_, _, x⟩, e⟩
  · exact h.at (fun b hb => hk e b hb (h.blk e b hb)) hs
theorem ChR.step {w w' : World} {vv : Value} {l : List (Value × List Int)} {S S' : Nat → Prop} (h : ChR w vv l) (hs : Stp S S' w w') (ha : ChA vv l S) : ChR w' vv l :=
  ⟨h.o.at' (fun e b hb hl => hs.oth b hl (ha.1 (fun e2 => e (by rw [e2]; rfl)) b hb)) hs.b0.size,
   fun x hx => ⟨(h.c x hx).1.at' (fun e b hb hl => hs.oth b hl (ha.2 x hx (fun e2 => e (by rw [e2]; rfl)) b hb)) hs.b0.size, (h.c x hx).2⟩⟩
theorem ChR.below {w w' : World} {vv : Value} {l : List (Value × List Int)} (h : ChR w vv l) (hb : Below w.heap.size w w') : ChR w' vv l :=
  ⟨h.o.below hb, fun x hx => ⟨(h.c x hx).1.below hb, (h.c x hx).2⟩⟩
theorem ChR.old {w : World} {vv : Value} {l : List (Value × List Int)} {S : Nat → Prop} (h : ChR w vv l) (hS : ∀ x, S x → w.heap.size ≤ x) : ChA vv l S :=
  ⟨fun e b hb hs => by have := h.o.blk (by simpa using e) b hb; have := hS b hs; omega, fun x hx e b hb hs => by have := (h.c x hx).1.blk (by simpa using e) b hb; have := hS b hs; omega⟩
def chs (l : List (Value × List Int)) (i : Nat) : List Int := (l.getD i (.slice none 0 0, [])).2
/-- What a crash makes of a member. -/
def crashM (st : Mst) (ch : List Int) : Mst := ⟨st.fd, crash st.L st.V ch, noV⟩
theorem RBox.congr {w : World} {S : Nat → Prop} {k n : Nat} {Λ : RLay} {M M' : Nat → Mst} {off : Bool} {acts armed : Int} (h : RBox w S k n Λ M off acts armed) (e : ∀ i, i < n → M' i = M i) : RBox w S k n Λ M' off acts armed :=
  ⟨h.b, h.l, fun i hi => by rw [e i hi]; exact h.p i hi, h.dj, h.tS, h.sk, h.sq, h.kq, h.lt, h.n1, h.n7⟩
theorem RS.congr {w w1 : World} {S : Nat → Prop} {k n : Nat} {M M' : Nat → Mst} {off : Bool} {acts armed : Int} (h : RS w S w1 k n M off acts armed) (e : ∀ i, i < n → M' i = M i) : RS w S w1 k n M' off acts armed := by
  obtain ⟨Λ, hB⟩ := h.h
  exact ⟨h.b, h.f, Λ, hB.congr e⟩
set_option maxHeartbeats 4000000 in
theorem rs_restart {w w1 : World} {S : Nat → Prop} {k n : Nat} {M : Nat → Mst} {off : Bool} {acts armed : Int} (h : RS w S w1 k n M off acts armed) (vv : Value) (l : List (Value × List Int)) (hc : ChR w1 vv l) (ha : ChA vv l S) (hln : l.length ≤ 140737488355328) (hv : ∀ i, i < n → ∀ z, ((M i).V z).length ≤ 1000000000000) :
    Calls Try.prog 47 #[.pointer (some ⟨k, 0, none⟩), vv] w1 fun e w' => e = .returned (.tuple #[]) ∧ Stp S S w1 w' ∧ RS w S w' k n (fun i => crashM (M i) (chs l i)) false acts 0 := by
  obtain ⟨Λ, hB⟩ := h.h
  have c0 := hB.c0
  have hlenv := fun W => hc.o.len_run (P := Try.prog) Try.underlying57 3 W
  rw [List.length_map] at hlenv
  have hlenq : ∀ W, (Builtin.len_ #[88] 3 #[.slice (some ⟨Λ.q, 0, none⟩) n Λ.cap]).run Try.prog W = .ok (.int .i64 (n : Int)) W := fun W => by
    have := hB.l.reads.len_run (P := Try.prog) Try.underlying88 3 W
    rw [rowV_len] at this; exact this
  have hn7 := hB.n7
  obtain ⟨pv, pc, rfl, pcell⟩ := hc.o.items
  have hMade := Lib.hid h
  go_enter Try.func47, Try.ntmps47
  go_wp2_with (fail)
  go_loopw [12] (fun t wr => ∃ (j : Nat) (Λ' : RLay), j ≤ n ∧ t = .int .i64 (j : Int) ∧ Λ'.q = Λ.q ∧ Λ'.cap = Λ.cap ∧ Stp S S w1 wr ∧ RBox wr S k n Λ' (fun i => if i < j then crashM (M i) (chs l i) else M i) off acts armed) (fun t _ => n - (intOf t).toNat)
  case atStart => exact ⟨0, Λ, by omega, rfl, rfl, rfl, Stp.refl _ _, hB.congr (fun i _ => by rw [if_neg (by omega)])⟩
  case round =>
    clear hB h c0
    obtain ⟨j, Λ', hj, rfl, hq, hcap, hS, hB⟩ := hrel
    by_cases hlt : j < n
    · have j1 : (j : Int) < (n : Int) := by omega
      have j2 : (j : Int) + 1 ≤ 8 := by omega
      have cs := hB.slot hlt
      rw [hq] at cs
      have hb2 : Below wr.heap.size wr (wr.alloc (.cells #[.pointer (some ⟨Λ'.m j, 0, none⟩)] 92)) := (Below.refl _ _).alloc (Nat.le_refl _) _
      have hB2 := hB.below hb2
      have hS2 := hS.trans (Stp.quiet hb2)
      have hc2 := hc.step hS2 ha
      have hp := hB2.p j hlt
      simp only [if_neg (Nat.lt_irrefl j)] at hp
      have hTS : ∀ x, Λ'.T j x → S x := fun x hx => (hB2.tS j x hlt hx).1
      have hM2 : ∀ i, (fun i => if i < j + 1 then crashM (M i) (chs l i) else M i) i = upd (fun i => if i < j then crashM (M i) (chs l i) else M i) j (crashM (M j) (chs l j)) i := fun i => by
        unfold upd
        show (if i < j + 1 then _ else _) = _
        by_cases e : i = j
        · subst e; rw [if_pos rfl, if_pos (by omega)]
        · rw [if_neg e]
          show _ = (if i < j then _ else _)
          by_cases e2 : i < j
          · rw [if_pos e2, if_pos (by omega)]
          · rw [if_neg e2, if_neg (by omega)]
      by_cases hjl : j < l.length
      · obtain ⟨cb, co, rfl, clt, cc⟩ := pcell j hjl
        have hx := List.getElem_mem hjl
        have e1 : chs l j = l[j].2 := by unfold chs; rw [List.getD_eq_getElem?_getD, List.getElem?_eq_getElem hjl]; rfl
        have cc2 : (wr.alloc (.cells #[.pointer (some ⟨Λ'.m j, 0, none⟩)] 92)).cell? ⟨cb, co + j, none⟩ = some l[j].1 := by
          rw [← cc]
          exact cell_of_heap (hS2.oth cb clt (ha.1 (fun e => by rw [e] at hjl; exact absurd hjl (Nat.not_lt_zero _)) cb rfl)) _
        have cm := crash_any hp l[j].1 l[j].2 (hc2.c _ hx).1 (fun hne b hb hT => ha.2 _ hx hne b hb (hTS b hT)) (hc2.c _ hx).2.1 (hc2.c _ hx).2.2 (hv j hlt)
        rw [← e1] at cm
        have jl : (j : Int) < (l.length : Int) := by omega
        generalize l[j].1 = u at *
        clear cc hc2 hp hB hx e1 hjl hb2
        go_wp2_with (fail)
        refine cm.mono ?_
        rintro e w4 ⟨rfl, hs4, hp4⟩
        obtain ⟨s5, hB5⟩ := hB2.turnS (st := crashM (M j) (chs l j)) hlt hs4 hp4
        have hrel2 := Lib.hid (And.intro (hS2.trans s5) (hB5.congr (fun i _ => hM2 i)))
        clear hB2 hS2 hs4 hp4 s5 hB5 cm hM2 hTS
        go_wp2_with (fail)
        go_roundw
        case rel => exact ⟨j + 1, Λ'.put j (Λ'.T j) (Λ'.g j) (Λ'.bp j) (Λ'.cp j) noF, by omega, by go_num, hq, hcap, hrel2.out⟩
        case measure => simp [intOf]; omega
      · have e1 : chs l j = [] := by unfold chs; rw [List.getD_eq_getElem?_getD, List.getElem?_eq_none (by omega)]; rfl
        have cm := crash_any hp (.slice none 0 0) [] (.inl ⟨⟨_, _, rfl⟩, rfl⟩) (fun hne => absurd rfl hne) (fun c hc => by cases hc) (by simp) (hv j hlt)
        rw [← e1] at cm
        have jl : ¬ (j : Int) < (l.length : Int) := by omega
        clear hc2 hp hB e1 hjl hb2
        go_wp2_with (fail)
        refine cm.mono ?_
        rintro e w4 ⟨rfl, hs4, hp4⟩
        obtain ⟨s5, hB5⟩ := hB2.turnS (st := crashM (M j) (chs l j)) hlt hs4 hp4
        have hrel2 := Lib.hid (And.intro (hS2.trans s5) (hB5.congr (fun i _ => hM2 i)))
        clear hB2 hS2 hs4 hp4 s5 hB5 cm hM2 hTS
        go_wp2_with (fail)
        go_roundw
        case rel => exact ⟨j + 1, Λ'.put j (Λ'.T j) (Λ'.g j) (Λ'.bp j) (Λ'.cp j) noF, by omega, by go_num, hq, hcap, hrel2.out⟩
        case measure => simp [intOf]; omega
    · obtain rfl : j = n := by omega
      have c1 := hB.c1
      have f1 := hB.f 1
      obtain ⟨h5, s5⟩ := hB.setK 1 (.bool false) false acts armed rfl
      have c3 := h5.c3
      have f3 := h5.f 3
      obtain ⟨h6, s6⟩ := h5.setK 3 (.int .i64 0) false acts 0 rfl
      have hS6 := hS.trans (s5.trans s6)
      have hfin := Lib.hid (And.intro hS6 (hMade.out.made hS6 (h6.congr (M' := fun i => crashM (M i) (chs l i)) (fun i hi => by rw [if_pos hi]))))
      clear hB h5 h6 s5 s6 hS hS6 hlt
      go_wp2_with (fail)
      go_end0
      exact ⟨rfl, hfin.out⟩
end Go.Proofs.Ytofhmdbilhdblaa

