/- stripe: Writes in parts, as the rack's model has them. -/
import Derived.Test.YtinceihboaiclaaGreatDoorStrMath5
namespace Go.Proofs.YtinceihboaiclaaGreatDoor
open Go.RowKit
set_option linter.unusedVariables false
set_option linter.unusedSimpArgs false
set_option maxRecDepth 100000

/-- Who is not gone, of the first slots. -/
def leftL (g : List Bool) (n : Nat) : List Int := (allL n).filter fun x => !g.getD x.toNat false
theorem leftL_succ (g : List Bool) (n : Nat) : leftL g (n + 1) = if g.getD n false = true then leftL g n else leftL g n ++ [(n : Int)] := by
  unfold leftL
  rw [allL_succ, List.filter_append]
  by_cases e : g.getD n false = true
  · rw [if_pos e, List.filter_cons_of_neg (by simpa using e)]; simp
  · rw [if_neg e, List.filter_cons_of_pos (by simpa using e)]; rfl
theorem gone_left (g : List Bool) (n : Nat) : (leftL g n).length + (goneL g n).length = n := left_len g n
section
variable {n sec k m a i : Nat} {R R0 : Rk} {B N id : Int} {l : List Int} {data D : List ByteArray}
theorem parts_model (hg : gR (k : Int) (m : Int) B = true) (hn : n = k + m) (hs : gSectors (k : Int) (m : Int) B = (sec : Int)) (hN0 : 0 ≤ N) (hN1 : N < gStripes (k : Int) (m : Int) B) (hd : dataB (k : Int) D = true) :
    ∃ Q1 Q2, stW n (R00 sec) 3 (k : Int) (m : Int) B (allL n) N D = (Q1, [], 0) ∧ stF n Q1 (allL n) = (Q2, [], 0) ∧ (∀ ins : List Bool, ∃ R1, stW n (R00 sec) 3 (k : Int) (m : Int) B (goneL ins n) N D = (R1, [], 0) ∧ stW n R1 3 (k : Int) (m : Int) B (leftL ins n) N D = (Q1, [], 0)) ∧ (∀ xs : List Int, (∀ x ∈ xs, 0 ≤ x ∧ x < (n : Int)) → xs.Nodup → k ≤ xs.length → stR n Q2 3 (k : Int) (m : Int) B xs N = (D, [], 0)) ∧ ∀ s, (imR n Q2 s).length ≤ 1000 := by
  have hk := k_cases hg
  obtain ⟨a, ha1, ha2, ha3, _⟩ := sec_le hg hN0 hN1 hs
  have h0 : Hale n sec (R00 sec) := hale_00 (by omega) (by omega)
  have hall : ∀ x ∈ allL n, 0 ≤ x ∧ x < (n : Int) := fun x hx => allL_mem.1 hx
  have AL : ∀ {R : Rk} (l : List Int), Hale n sec R → (∀ x ∈ l, 0 ≤ x ∧ x < (n : Int)) → l.Nodup → allowB n R ((3 : Nat) : Int) (k : Int) (m : Int) B l N = true := fun l h h1 h2 => allow_sz (id := ((3 : Nat) : Int)) h.sz hg hn hs (by decide) hN0 hN1 h1 h2
  have h1 : Hale n sec (RW 3 a (wordF k m B N D) (allL n) (R00 sec)) := hale_RW h0 _
  have h2 : Hale n sec (RF (allL n) (RW 3 a (wordF k m B N D) (allL n) (R00 sec))) := hale_RF h1
  have mem : ∀ j, j < n → (j : Int) ∈ allL n := fun j hj => allL_mem.2 (by omega)
  have al0 := AL (allL n) h0 hall allL_nodup
  have md : ∀ j, j < n → Made 3 j a (wordF k m B N D (j : Int)) := fun j hj => made_word hg hn hd (by decide) ha2 al0 hj (mem j hj)
  have sub1 : ∀ (ins : List Bool) (x : Int), x ∈ goneL ins n → x ∈ allL n := fun ins x hx => (List.mem_filter.1 hx).1
  have sub2 : ∀ (ins : List Bool) (x : Int), x ∈ leftL ins n → x ∈ allL n := fun ins x hx => (List.mem_filter.1 hx).1
  refine ⟨_, _, stW_hale (i := 3) h0 hn al0 hd ha1, stF_hale h1 hall allL_nodup, fun ins => ?_, fun xs hx hnd hkx => ?_, fun s => ?_⟩
  · have g1 : Hale n sec (RW 3 a (wordF k m B N D) (goneL ins n) (R00 sec)) := hale_RW h0 _
    have n1 : (goneL ins n).Nodup := allL_nodup.filter _
    have n2 : (leftL ins n).Nodup := allL_nodup.filter _
    refine ⟨_, stW_hale (i := 3) h0 hn (AL _ h0 (fun x hx => hall x (sub1 ins x hx)) n1) hd ha1, ?_⟩
    have := stW_hale (i := 3) g1 hn (AL _ g1 (fun x hx => hall x (sub2 ins x hx)) n2) hd ha1
    rw [rw_parts (l := allL n) (wordF k m B N D) (fun j => by
      unfold goneL leftL
      rw [List.mem_filter, List.mem_filter]
      cases ins.getD (j : Int).toNat false <;> simp) (fun j h1 h2 => by
      have e1 := (List.mem_filter.1 h1).2
      have e2 := (List.mem_filter.1 h2).2
      rw [e1] at e2; cases e2) (by have := gone_left ins n; rw [allL_len']; omega)] at this
    exact this
  · exact read_all (i := 3) h2 hg hn hs (by decide) hN0 hN1 ha1 hd (fun j hj => by
      rw [top_RF h1 hj ha3, top_RW h0 _ hj ha3 (fun _ => md j hj), if_pos ⟨mem j hj, rfl⟩]) hx hnd hkx
  · unfold imR
    split
    · rename_i hh
      obtain ⟨j, rfl, hj⟩ := hasK_is hh
      rw [Int.toNat_natCast]
      unfold imL
      split
      · simp
      · rw [h2.l j hj]
        have hse := sectors_eq hg
        have hst := div_rng (K := (k : Int)) (B := B) (by omega) ⟨hk.2.2.1, hk.2.2.2⟩
        omega
    · simp
end
end Go.Proofs.YtinceihboaiclaaGreatDoor
