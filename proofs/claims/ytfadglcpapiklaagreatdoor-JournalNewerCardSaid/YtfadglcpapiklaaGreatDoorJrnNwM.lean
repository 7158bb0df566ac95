/- journal: what two records of one geometry tell. -/
import Derived.Test.YtfadglcpapiklaaGreatDoorJrnHead
namespace Go.Proofs.YtfadglcpapiklaaGreatDoor
open Go.RowKit
open Rc
set_option linter.unusedVariables false
set_option linter.unusedSimpArgs false
set_option maxRecDepth 100000

theorem par_eq {a b : Int} (h : (a % 2).toNat = (b % 2).toNat) : b % 2 = a % 2 := by omega
/-- A sector that is sealed for another array does not open. -/
theorem other_shut {i j a d : Nat} {p : ByteArray} (m : Made i j a p) (hd : d < 65536) (hne : d ≠ i) : openOk (d : Int) (j : Int) (a : Int) (secS i j a p) = false := by
  have hq : p.data.toList.length ≤ 120 := by have := m.q; simpa using this
  cases e : openOk (d : Int) (j : Int) (a : Int) (secS i j a p) with
  | false => rfl
  | true =>
    rw [openOk, Bool.and_eq_true, Bool.and_eq_true, eqS_iff, decide_eq_true_eq] at e
    obtain ⟨_, h, he⟩ := e
    rw [sealL, if_pos h] at he
    have he2 := congrArg (fun b => b.data.toList) he
    simp only [sec_list, Int.toNat_natCast] at he2
    have hx : ((secS i j a p).extract 0 120).data.toList = (Sec.secL i j a p.data.toList).take 120 := by
      rw [← sec_list]; simp [ByteArray.data_extract]
    rw [hx] at he2
    have h1 := m.i2
    have h2 := m.l
    have h3 := m.a
    exact absurd ((Sec.sec_opens hq (by omega) hd (by omega) (by omega) (by omega) (by omega)).1 he2).1 hne
section
variable {n sec k m : Nat} {R1 R2 : Rk} {B q1 q2 : Int} {s1 s2 : List St} {sl ord : List Int}
theorem newer_tell (hG : Gm n sec k m B) (hr1 : rightB (k : Int) (m : Int) B q1 s1 = true) (hr2 : rightB (k : Int) (m : Int) B q2 s2 = true) (P1 : PutTo n sec k 9 q1 s1 (allL n) (R00 sec) R1) (P2 : PutTo n sec k 9 q2 s2 sl R1 R2) {j c : Nat} (hj : j < n) (hc : c < 2) :
    bayM n R2 9 (k : Int) (m : Int) B (j : Int) c = if (j : Int) ∈ sl ∧ c = (q2 % 2).toNat then some (q2, s2.map pr) else if c = (q1 % 2).toNat then some (q1, s1.map pr) else none := by
  have hb1 := body_len hG hr1
  have hb2 := body_len hG hr2
  have hin := (bay_in hG c).1
  obtain ⟨b1, v1, t1⟩ := P1.bay j hj (allL_mem.2 (by omega)) rfl
  by_cases h1 : (j : Int) ∈ sl ∧ c = (q2 % 2).toNat
  · rw [if_pos h1]
    obtain ⟨b2, _, _⟩ := P2.bay j hj h1.1 b1.al
    exact cand_at hG P2.u hr2 (i := 9) (by omega) (by omega) hj b2 h1.2
  · rw [if_neg h1]
    have ht : (R2.M j).fd = false ∧ ∀ e, e ≤ 16 * k → topM (R2.M j) (bayN k c + e) = topM (R1.M j) (bayN k c + e) := by
      by_cases h2 : (j : Int) ∈ sl
      · obtain ⟨b2, _, t2⟩ := P2.bay j hj h2 b1.al
        refine ⟨b2.al, fun e he => t2 _ (by omega) ?_⟩
        have ha := bay_apart (k := k) c (q2 % 2).toNat e hc (by omega) (fun z => h1 ⟨h2, z⟩) he
        omega
      · rw [P2.oth j (.inl h2)]
        exact ⟨b1.al, fun e _ => rfl⟩
    by_cases h3 : c = (q1 % 2).toNat
    · rw [if_pos h3]
      refine cand_at hG P2.u hr1 (i := 9) (by omega) (by omega) hj ⟨ht.1, ?_, fun t htl => ?_⟩ h3
      · have := ht.2 0 (by omega)
        rw [Nat.add_zero] at this
        rw [← h3, this, h3]; exact b1.h
      · have := ht.2 (1 + t) (by omega)
        rw [← Nat.add_assoc] at this
        rw [← h3, this, h3]; exact b1.b t htl
    · rw [if_neg h3]
      refine bay_zero hG P2.u hj hc (fun _ => ?_) _
      have := ht.2 0 (by omega)
      rw [Nat.add_zero] at this
      rw [this]
      have ha := bay_apart (k := k) c (q1 % 2).toNat 0 hc (by omega) h3 (by omega)
      rw [t1 _ (by omega) (by omega)]
      exact top_zero (sec := sec) j _
/-- With another array's number nothing is told. -/
theorem newer_none (hG : Gm n sec k m B) (hr1 : rightB (k : Int) (m : Int) B q1 s1 = true) (hr2 : rightB (k : Int) (m : Int) B q2 s2 = true) (P1 : PutTo n sec k 9 q1 s1 (allL n) (R00 sec) R1) (P2 : PutTo n sec k 9 q2 s2 sl R1 R2) (ho : ∀ x ∈ ord, 0 ≤ x ∧ x < (n : Int)) :
    bestM n R2 10 (k : Int) (m : Int) B ord = none := by
  refine best_no fun x hx c hc => ?_
  obtain ⟨h0, h3⟩ := ho x hx
  obtain ⟨j, rfl⟩ := Int.eq_ofNat_of_zero_le h0
  have hj : j < n := by omega
  have hb1 := body_len hG hr1
  have hb2 := body_len hG hr2
  have hin := (bay_in hG c).1
  have hrg := hG.rng
  have hp1 := hG.plc hr1 (i := 9) (by omega) (by omega)
  have hp2 := hG.plc hr2 (i := 9) (by omega) (by omega)
  obtain ⟨b1, v1, t1⟩ := P1.bay j hj (allL_mem.2 (by omega)) rfl
  have T1 : topM (R1.M j) (bayN k c) = zero128 ∨ ∃ p, Made 9 j (bayN k c) p ∧ topM (R1.M j) (bayN k c) = secS 9 j (bayN k c) p := by
    by_cases h3 : c = (q1 % 2).toNat
    · right; rw [h3] at hin ⊢; exact ⟨layS q1 s1, ⟨by omega, by omega, by omega, by omega, hp1.hz⟩, b1.h⟩
    · left
      have ha := bay_apart (k := k) c (q1 % 2).toNat 0 hc (by omega) h3 (by omega)
      rw [t1 _ (by omega) (by omega)]
      exact top_zero (sec := sec) j _
  have T2 : (R2.M j).fd = false ∧ (topM (R2.M j) (bayN k c) = zero128 ∨ ∃ p, Made 9 j (bayN k c) p ∧ topM (R2.M j) (bayN k c) = secS 9 j (bayN k c) p) := by
    by_cases h2 : (j : Int) ∈ sl
    · obtain ⟨b2, _, t2⟩ := P2.bay j hj h2 b1.al
      refine ⟨b2.al, ?_⟩
      by_cases h3 : c = (q2 % 2).toNat
      · right; rw [h3] at hin ⊢; exact ⟨layS q2 s2, ⟨by omega, by omega, by omega, by omega, hp2.hz⟩, b2.h⟩
      · have ha := bay_apart (k := k) c (q2 % 2).toNat 0 hc (by omega) h3 (by omega)
        rw [t2 _ (by omega) (by omega)]
        exact T1
    · rw [P2.oth j (.inl h2)]
      exact ⟨b1.al, T1⟩
  refine cand_none hG hc ?_
  have hh := top_holds12 (n := n) P2.u.off hj T2.1 (c := bayN k c) (by rw [P2.u.l j hj]; omega)
  refine sr_shut hh ?_
  rcases T2.2 with e | ⟨p, hm, e⟩
  · rw [e]; exact zero_shut128 _ _ _
  · rw [e]; exact other_shut (d := 10) hm (by omega) (by omega)
theorem newer_best (hG : Gm n sec k m B) (hr1 : rightB (k : Int) (m : Int) B q1 s1 = true) (hr2 : rightB (k : Int) (m : Int) B q2 s2 = true) (P1 : PutTo n sec k 9 q1 s1 (allL n) (R00 sec) R1) (P2 : PutTo n sec k 9 q2 s2 sl R1 R2) (ho : ∀ x ∈ ord, 0 ≤ x ∧ x < (n : Int)) (hall : ∀ j : Nat, j < n → (j : Int) ∈ ord) (P : Int → Bool) (hsl : sl = (allL n).filter P) :
    ∃ y, bestM n R2 9 (k : Int) (m : Int) B ord = some y ∧ (y = (q1, s1.map pr) ∨ y = (q2, s2.map pr)) ∧ (¬ (0 < sl.length ∧ sl.length < n ∧ q2 = q1) → y = if (sl.length = n ∧ q2 % 2 = q1 % 2) ∨ (0 < sl.length ∧ q1 < q2) then (q2, s2.map pr) else (q1, s1.map pr)) := by
  have hn := hG.rng
  have tl := fun j c (hj : j < n) (hc : c < 2) => newer_tell hG hr1 hr2 P1 P2 hj hc
  have hsub : ∀ x ∈ sl, ∃ j : Nat, x = (j : Int) ∧ j < n := fun x hx => by
    rw [hsl] at hx
    obtain ⟨h0, h3⟩ := allL_mem.1 (List.mem_filter.1 hx).1
    obtain ⟨j, rfl⟩ := Int.eq_ofNat_of_zero_le h0
    exact ⟨j, rfl, by omega⟩
  have hfull : sl.length = n → ∀ j : Nat, j < n → (j : Int) ∈ sl := fun h j hj => by
    have h2 : ((allL n).filter P).length = (allL n).length := by rw [← hsl, h, allL_len]
    have h3 := List.length_filter_eq_length_iff.1 h2 _ (allL_mem.2 (show (0 : Int) ≤ (j : Int) ∧ (j : Int) < (n : Int) by omega))
    rw [hsl]; exact List.mem_filter.2 ⟨allL_mem.2 (by omega), h3⟩
  have hless : sl.length < n → ∃ j : Nat, j < n ∧ (j : Int) ∉ sl := fun h => by
    rcases Classical.em (∃ j : Nat, j < n ∧ (j : Int) ∉ sl) with z | z
    · exact z
    · exfalso
      have h2 : ∀ a ∈ allL n, P a = true := fun a ha => by
        obtain ⟨h0, h3⟩ := allL_mem.1 ha
        obtain ⟨j, rfl⟩ := Int.eq_ofNat_of_zero_le h0
        have h4 : (j : Int) ∈ sl := Classical.byContradiction fun y => z ⟨j, by omega, y⟩
        rw [hsl] at h4
        exact (List.mem_filter.1 h4).2
      have h5 := List.length_filter_eq_length_iff.2 h2
      rw [← hsl, allL_len] at h5
      omega
  have hle : sl.length ≤ n := by rw [hsl]; exact Nat.le_trans (List.length_filter_le _ _) (by rw [allL_len]; exact Nat.le_refl _)
  have c1 : (q1 % 2).toNat < 2 := by omega
  have c2 : (q2 % 2).toNat < 2 := by omega
  have t2 : 0 < sl.length → ∃ j : Nat, j < n ∧ bayM n R2 9 (k : Int) (m : Int) B (j : Int) (q2 % 2).toNat = some (q2, s2.map pr) := fun h => by
    obtain ⟨j, e, hj⟩ := hsub _ (List.getElem_mem h)
    exact ⟨j, hj, by rw [tl j _ hj c2, if_pos ⟨by rw [← e]; exact List.getElem_mem h, rfl⟩]⟩
  rcases best_is (n := n) (R := R2) (K := (k : Int)) (M := (m : Int)) (B := B) 9 ord with ⟨e, hno⟩ | ⟨z, e, ⟨x, hx, c, hc, hz⟩, hmax⟩
  · exfalso
    have hx0 := hall 0 (by omega)
    by_cases h : ((0 : Nat) : Int) ∈ sl
    · exact hno _ ⟨_, hx0, _, c2, by rw [tl 0 _ (by omega) c2, if_pos ⟨h, rfl⟩]⟩
    · exact hno _ ⟨_, hx0, _, c1, by rw [tl 0 _ (by omega) c1, if_neg (fun y => h y.1), if_pos rfl]⟩
  · obtain ⟨h0, h3⟩ := ho x hx
    obtain ⟨j, rfl⟩ := Int.eq_ofNat_of_zero_le h0
    have hj : j < n := by omega
    rw [tl j c hj hc] at hz
    have two : z = (q1, s1.map pr) ∨ z = (q2, s2.map pr) := by
      split at hz
      · cases hz; exact .inr rfl
      · split at hz
        · cases hz; exact .inl rfl
        · cases hz
    refine ⟨z, e, two, fun hnot => ?_⟩
    by_cases hw : (sl.length = n ∧ q2 % 2 = q1 % 2) ∨ (0 < sl.length ∧ q1 < q2)
    · rw [if_pos hw]
      rcases hw with ⟨w1, w2⟩ | ⟨w1, w2⟩
      · split at hz
        · cases hz; rfl
        · next hh =>
          split at hz
          · next h5 => exact absurd ⟨hfull w1 j hj, by rw [w2]; exact h5⟩ hh
          · cases hz
      · rcases two with y | y
        · obtain ⟨j2, hj2, e2⟩ := t2 w1
          have := hmax _ ⟨_, hall j2 hj2, _, c2, e2⟩
          rw [y] at this
          have h6 : q2 ≤ q1 := this
          omega
        · exact y
    · rw [if_neg hw]
      rcases Nat.eq_zero_or_pos sl.length with h | hpos
      · have he : sl = [] := List.length_eq_zero_iff.1 h
        rw [he, if_neg (fun y => by cases y.1)] at hz
        split at hz
        · cases hz; rfl
        · cases hz
      rcases two with y | y
      · exact y
      · exfalso
        have t1 : ∃ j2 : Nat, j2 < n ∧ bayM n R2 9 (k : Int) (m : Int) B (j2 : Int) (q1 % 2).toNat = some (q1, s1.map pr) := by
          by_cases hf : sl.length = n
          · refine ⟨0, by omega, ?_⟩
            rw [tl 0 _ (by omega) c1, if_neg (fun y => ?_), if_pos rfl]
            have h7 := y.2
            exact hw (.inl ⟨hf, par_eq h7⟩)
          · obtain ⟨j2, hj2, h8⟩ := hless (by omega)
            exact ⟨j2, hj2, by rw [tl j2 _ hj2 c1, if_neg (fun y => h8 y.1), if_pos rfl]⟩
        obtain ⟨j2, hj2, e2⟩ := t1
        have := hmax _ ⟨_, hall j2 hj2, _, c1, e2⟩
        rw [y] at this
        have h6 : q1 ≤ q2 := this
        by_cases hf : sl.length = n
        · exact hw (.inl ⟨hf, by
            have : q1 = q2 := by
              rcases Int.lt_or_eq_of_le h6 with g | g
              · exact absurd (.inr ⟨hpos, g⟩) hw
              · exact g
            rw [this]⟩)
        · exact hnot ⟨hpos, by omega, by
            rcases Int.lt_or_eq_of_le h6 with g | g
            · exact absurd (.inr ⟨hpos, g⟩) hw
            · exact g.symm⟩
/-- All slots from the one at 't' on. -/
def rotL (n t i : Nat) : List Int := (List.range i).map fun x => (((x + t) % n : Nat) : Int)
theorem rotL_succ (n t i : Nat) : rotL n t (i + 1) = rotL n t i ++ [(((i + t) % n : Nat) : Int)] := by simp [rotL, List.range_succ]
theorem rotL_len (n t i : Nat) : (rotL n t i).length = i := by simp [rotL]
theorem rotL_rng {n t i : Nat} (hn : 0 < n) : ∀ x ∈ rotL n t i, 0 ≤ x ∧ x < (n : Int) := fun x hx => by
  obtain ⟨y, _, rfl⟩ := List.mem_map.1 hx
  have := Nat.mod_lt (y + t) hn
  omega
theorem rotL_all {n t j : Nat} (ht : t < n) (hj : j < n) : (j : Int) ∈ rotL n t n := by
  refine List.mem_map.2 ?_
  by_cases h : t ≤ j
  · refine ⟨j - t, List.mem_range.2 (by omega), ?_⟩
    rw [show j - t + t = j by omega, Nat.mod_eq_of_lt hj]
  · refine ⟨j + n - t, List.mem_range.2 (by omega), ?_⟩
    rw [show j + n - t + t = j + n by omega, Nat.add_mod_right, Nat.mod_eq_of_lt hj]
theorem rotL_nodup {n t : Nat} : (rotL n t n).Nodup := by
  unfold rotL List.Nodup
  rw [List.pairwise_map]
  refine List.Pairwise.imp_of_mem (fun {a b} ha hb hab e => ?_) List.pairwise_lt_range
  have hb2 := List.mem_range.1 hb
  have e2 : (b + t) % n = (a + t) % n := by omega
  have h3 := Nat.sub_mod_eq_zero_of_mod_eq e2
  rw [show b + t - (a + t) = b - a by omega, Nat.mod_eq_of_lt (by omega)] at h3
  omega
end
end Go.Proofs.YtfadglcpapiklaaGreatDoor
