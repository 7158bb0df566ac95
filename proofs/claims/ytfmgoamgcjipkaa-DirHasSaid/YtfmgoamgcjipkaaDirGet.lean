/- dir: Get, the program's and the document's own. -/
import Derived.Test.YtfmgoamgcjipkaaDirVol
namespace Go.Proofs.Ytfmgoamgcjipkaa
open Go.RowKit
set_option linter.unusedVariables false
set_option linter.unusedSimpArgs false
open Dr

def GetsV (w : World) (s : ByteArray) (e : Ending) (w' : World) : Prop := ∃ v, e = .returned (.tuple #[.int .i64 (outN s), v, .int .i64 (outE s)]) ∧ OwnE volE w' w.heap.size 24 v (outL s) ∧ Below w.heap.size w w'
theorem OwnE.rd {α : Type} {E : Enc α} {w w' : World} {B b : Nat} {T : TypeId} {v : Value} {l : List α} {s : ByteArray} {bad : Bool} (h : OwnE E w B T v l) (hr : RdTo w b s bad w') (hb : b < B) : OwnE E w' B T v l := by
  refine ⟨h.o.1, ?_⟩
  rcases h.o.2 with h1 | ⟨g, cap, cur, h1, h2, h3, h4⟩
  · exact .inl h1
  · exact .inr ⟨g, cap, cur, h1, h2, by rw [hr.oth g (Array.getElem?_eq_some_iff.1 h3).1 (by omega)]; exact h3, h4⟩
theorem rV_name (p : RS) : (rV p).n.size ≤ p.s.size := by
  have a := rNumR_size p 1
  have b : (rTxt (rNumR p 1) 6).size ≤ (rNumR p 1).s.size := txt_size _ _ _
  rw [rV, rPad, ByteArray.size_extract]; omega
theorem rVs_names (p : RS) : ∀ k, ∀ v ∈ (rVs k p).1, v.n.size ≤ p.s.size
  | 0, v, h => by cases h
  | k + 1, v, h => by
    rw [rVs] at h
    rcases List.mem_append.1 h with h | h
    · exact rVs_names p k v h
    · simp at h; subst h; exact Nat.le_trans (rV_name _) (rVs_size k p)
theorem rVs_ok (p : RS) (k : Nat) (h : p.s.size ≤ 140737488351232) : VolsOk (rVs k p).1 := fun i hi => by
  rw [at_get hi]; exact Nat.le_trans (rVs_names p k _ (List.getElem_mem hi)) h
theorem isB_small {s : ByteArray} {k : Nat} (h : isB s k = true) : k ≤ 8 := by
  unfold isB at h
  rw [Bool.and_eq_true] at h
  have := ((rightB_iff _ _).1 h.1).1.2.2
  rwa [show (getV s k).length = k from rVs_len k _] at this
theorem out_none (w : World) (s : ByteArray) (h : getB s = false) (W : World) (hb : Below w.heap.size w W) : GetsV w s (.returned (.tuple #[.int .i64 0, .slice none 0 0, .int .i64 180])) W :=
  ⟨_, by rw [outN, outE, h]; rfl, by rw [outL, h]; exact OwnE.nil _ _ _ _, hb⟩
theorem out_some (w : World) (s : ByteArray) (k : Nat) (hk : k = min (many s) 9 ∨ k = many s) (h : isB s k = true) (v : Value) (W : World) (ho : OwnE volE W w.heap.size 24 v (getV s k)) (hb : Below w.heap.size w W) : GetsV w s (.returned (.tuple #[.int .i64 (getN s), v, .int .i64 0])) W := by
  have h8 := isB_small h
  have hm : k = many s := by omega
  subst hm
  have hg : getB s = true := h
  exact ⟨v, by rw [outN, outE, hg]; rfl, by rw [outL, hg]; exact ho, hb⟩
set_option maxRecDepth 100000 in
set_option maxHeartbeats 8000000 in
theorem dget_any (s : ByteArray) (w : World) (hs : s.size ≤ 140737488351232) : Calls Try.prog 18 #[.string s] w (GetsV w s) := by
  have z0 : (p0 s).s.size ≤ s.size := rTxtR_size _ _
  have z1 : (p1 s).s.size ≤ (p0 s).s.size := rNumR_size _ _
  have z2 := p2_size s
  have hm256 : many s < 256 := rNum_lt (p1 s) 1
  obtain ⟨R, hR⟩ : ∃ R, w.heap.size = R := ⟨_, rfl⟩
  have hnone := out_none w s
  have hsome := out_some w s
  rw [hR] at hnone hsome
  have hone : ∀ k, k = (many s) → isB s k = false → getB s = false := fun k hk h => by rw [hk] at h; exact h
  have hVok : ∀ k, VolsOk (getV s k) := fun k => rVs_ok (p2 s) k (by omega)
  have hlen : ∀ k, (getV s k).length = k := fun k => rVs_len k (p2 s)
  have hsz : ∀ k, (rVs k (p2 s)).2.s.size ≤ 140737488355328 := fun k => by have := rVs_size k (p2 s); omega
  have hstep : ∀ k, getV s (k + 1) = getV s k ++ [rV (rVs k (p2 s)).2] ∧ rVs (k + 1) (p2 s) = ((rVs k (p2 s)).1 ++ [rV (rVs k (p2 s)).2], rVR (rVs k (p2 s)).2) := fun k => ⟨rfl, rfl⟩
  have hzero : getV s 0 = [] ∧ (rVs 0 (p2 s)).2 = p2 s := ⟨rfl, rfl⟩
  have hisB : ∀ k, isB s k = (rightB (getN s) (getV s k) && decide (putL (getN s) (getV s k) = s)) := fun k => rfl
  have cN : Hid (∀ W, RdAt W R (p0 s).s (p0 s).b → Calls Try.prog 41 #[.pointer (some ⟨R, 0, none⟩), .int .i64 1] W (TakesR W R (.int .i64 (getN s)) (p1 s))) := Lib.hid fun W h => rdnum_q R (p0 s) 1 W h (by omega)
  have cM : Hid (∀ W, RdAt W R (p1 s).s (p1 s).b → Calls Try.prog 41 #[.pointer (some ⟨R, 0, none⟩), .int .i64 1] W (TakesR W R (.int .i64 ((many s : Nat) : Int)) (p2 s))) := Lib.hid fun W h => rdnum_q R (p1 s) 1 W h (by omega)
  have cT : Hid (∀ W, RdAt W R s false → Calls Try.prog 40 #[.pointer (some ⟨R, 0, none⟩), .int .i64 4] W (TakesR W R (.string (rTxt ⟨s, false⟩ 4)) (p0 s))) := Lib.hid fun W h => rdtxt_q R ⟨s, false⟩ 4 W h (by show s.size ≤ _; omega)
  generalize many s = n at *
  generalize getN s = N at *
  go_enter Try.func18, Try.ntmps18
  go_wp2_with (fail)
  refine (new_any s _).mono ?_
  rintro e w0 ⟨rfl, hw0⟩
  have r0 : RdAt w0 R s false := by rw [hw0, ← hR]; exact RdAt.made _ _ _
  have b0 : Below R w w0 := by rw [hw0]; exact (Below.refl _ _).alloc (by omega) _
  have hs0 : w0.heap.size = R + 1 := by rw [hw0, ← hR]; simp
  rw [hR]
  clear hw0
  go_wp2_with (fail)
  refine (cT.out _ r0).mono ?_
  rintro e w1 ⟨rfl, r1⟩
  have b1 := b0.trans (r1.below (Nat.le_refl _) (by omega))
  have s1 := r1.size
  go_wp2_with (fail)
  refine (cN.out _ r1.r).mono ?_
  rintro e w2 ⟨rfl, r2⟩
  have b2 := b1.trans (r2.below (Nat.le_refl _) (by omega))
  have s2 := r2.size
  go_wp2_with (fail)
  refine (cM.out _ r2.r).mono ?_
  rintro e w3 ⟨rfl, r3⟩
  have b3 := b2.trans (r3.below (Nat.le_refl _) (by omega))
  have s3 := r3.size
  have r3r := r3.r
  clear b0 b1 b2 r0 r1 r2 r3 cT cN cM
  go_wp2_with (fail)
  go_loopw [7, 18] (fun o i wr => ∃ k : Nat, k ≤ n ∧ i = .int .i64 (k : Int) ∧ OwnE volE wr (R + 1) 24 o (getV s k) ∧ RdAt wr R (rVs k (p2 s)).2.s (rVs k (p2 s)).2.b ∧ Below R w wr ∧ R + 1 ≤ wr.heap.size) (fun _ i _ => n - (intOf i).toNat)
  case atStart => exact ⟨0, by omega, rfl, by rw [hzero.1]; exact OwnE.nil _ _ _ _, by rw [hzero.2]; exact r3r, b3, by omega⟩
  case round =>
    obtain ⟨k, hk, rfl, ho, hr, hB, hBs⟩ := hrel
    obtain ⟨o, rfl⟩ : ∃ o, o = u7 := ⟨_, rfl⟩
    rename World => wr
    have hl := hlen k
    by_cases hlt : k < n
    · have x1 : (k : Int) < (n : Int) := by omega
      have hst := (hstep k).1
      have hst2 : (rVs (k + 1) (p2 s)).2 = rVR (rVs k (p2 s)).2 := by rw [(hstep k).2]
      have hz := hsz k
      generalize (rVs k (p2 s)).2 = q at *
      have cV := volume_any R q wr hr hz
      unfold Vol.v at cV
      generalize rV q = y at *
      go_wp2_with (fail)
      refine cV.mono ?_
      rintro e w4 ⟨rfl, r4⟩
      have o4 := ho.rd r4 (by omega)
      have B4 := hB.trans (r4.below (Nat.le_refl _) (by omega))
      have s4 := r4.size
      obtain ⟨v', w', hap, o', b'⟩ := o4.pushV (by omega) (by omega) y
      have s5 := b'.size
      have r5 := r4.r.below b' (by omega)
      have B5 := B4.trans (b'.mono (by omega))
      have o5 := Lib.hid o'
      clear o' o4 ho hr r4 b' cV
      go_wp2_with (at_builtin; refine wpList_append_run hap _ _ rfl rfl rfl rfl rfl ?_)
      go_roundw
      case rel => exact ⟨k + 1, by omega, by go_num, by rw [hst]; exact o5.out, by rw [hst2]; exact r5, B5, by omega⟩
      case measure => simp [intOf]; omega
    · obtain rfl : k = n := by omega
      have hread := ho.reads
      have hvo := hVok k
      have hiB := hisB k
      have hget := hone k rfl
      have hsm := hsome k (.inr rfl)
      clear hsome hone hVok hlen hsz hstep hzero hisB
      generalize getV s k = l at *
      have x1 : ¬ ((k : Int) < (k : Int)) := by omega
      cases hr2 : rightB N l with
      | false =>
        have cp := fun W hW => dput_any N o l W hW hvo
        rw [show putE N l = 180 by rw [putE, hr2]; rfl] at cp
        have hz := hget (by rw [hiB, hr2, Bool.false_and])
        generalize putL N l = t at *
        have hn := hnone hz
        clear hget hiB hsm hr2
        go_wp2_with (fail)
        refine (cp _ hread).mono ?_
        rintro e w6 ⟨rfl, b6⟩
        go_wp2_with (fail)
        go_ret3
        exact hn _ (hB.trans (b6.mono (by omega)))
      | true =>
        have cp := fun W hW => dput_any N o l W hW hvo
        rw [show putE N l = 0 by rw [putE, hr2]; rfl] at cp
        have he := toL_eq (putL N l) s
        rw [hr2, Bool.true_and] at hiB
        generalize putL N l = t at *
        cases hd : decide (t = s) with
        | false =>
          rw [hd] at he hiB
          have hz := hget hiB
          have hn := hnone hz
          clear hget hiB hsm hr2 hd
          go_wp2_with (fail)
          refine (cp _ hread).mono ?_
          rintro e w6 ⟨rfl, b6⟩
          go_wp2_with (fail)
          go_ret3
          exact hn _ (hB.trans (b6.mono (by omega)))
        | true =>
          rw [hd] at he hiB
          have hn := hsm hiB
          clear hget hiB hsm hr2 hd hnone
          have hoH := Lib.hid ho
          clear ho
          go_wp2_with (fail)
          refine (cp _ hread).mono ?_
          rintro e w6 ⟨rfl, b6⟩
          go_wp2_with (fail)
          go_ret3
          exact hn _ _ ((hoH.out.after b6).mono (by omega)) (hB.trans (b6.mono (by omega)))
set_option maxRecDepth 100000 in
set_option maxHeartbeats 8000000 in
theorem rget_any (s : ByteArray) (w : World) (hs : s.size ≤ 140737488351232) : Calls Try.prog 19 #[.string s] w (GetsV w s) := by
  have z0 : (p0 s).s.size ≤ s.size := rTxtR_size _ _
  have z1 : (p1 s).s.size ≤ (p0 s).s.size := rNumR_size _ _
  have z2 := p2_size s
  have hm256 : many s < 256 := rNum_lt (p1 s) 1
  obtain ⟨R, hR⟩ : ∃ R, w.heap.size = R := ⟨_, rfl⟩
  have hnone := out_none w s
  have hsome := out_some w s
  rw [hR] at hnone hsome
  have hone : ∀ k, k = (min (many s) 9) → isB s k = false → getB s = false := fun k hk h => by rw [hk, isB_nine] at h; exact h
  have hVok : ∀ k, VolsOk (getV s k) := fun k => rVs_ok (p2 s) k (by omega)
  have hlen : ∀ k, (getV s k).length = k := fun k => rVs_len k (p2 s)
  have hsz : ∀ k, (rVs k (p2 s)).2.s.size ≤ 140737488355328 := fun k => by have := rVs_size k (p2 s); omega
  have hstep : ∀ k, getV s (k + 1) = getV s k ++ [rV (rVs k (p2 s)).2] ∧ rVs (k + 1) (p2 s) = ((rVs k (p2 s)).1 ++ [rV (rVs k (p2 s)).2], rVR (rVs k (p2 s)).2) := fun k => ⟨rfl, rfl⟩
  have hzero : getV s 0 = [] ∧ (rVs 0 (p2 s)).2 = p2 s := ⟨rfl, rfl⟩
  have hisB : ∀ k, isB s k = (rightB (getN s) (getV s k) && decide (putL (getN s) (getV s k) = s)) := fun k => rfl
  have cN : Hid (∀ W, RdAt W R (p0 s).s (p0 s).b → Calls Try.prog 45 #[.pointer (some ⟨R, 0, none⟩), .int .i64 1] W (TakesR W R (.int .i64 (getN s)) (p1 s))) := Lib.hid fun W h => rrnum_q R (p0 s) 1 W h (by omega)
  have cM : Hid (∀ W, RdAt W R (p1 s).s (p1 s).b → Calls Try.prog 45 #[.pointer (some ⟨R, 0, none⟩), .int .i64 1] W (TakesR W R (.int .i64 ((many s : Nat) : Int)) (p2 s))) := Lib.hid fun W h => rrnum_q R (p1 s) 1 W h (by omega)
  have cT : Hid (∀ W, RdAt W R s false → Calls Try.prog 44 #[.pointer (some ⟨R, 0, none⟩), .int .i64 4] W (TakesR W R (.string (rTxt ⟨s, false⟩ 4)) (p0 s))) := Lib.hid fun W h => rrtxt_q R ⟨s, false⟩ 4 W h (by show s.size ≤ _; omega)
  generalize many s = n at *
  generalize getN s = N at *
  go_enter Try.func19, Try.ntmps19
  go_wp2_with (fail)
  refine (rnew_any s _).mono ?_
  rintro e w0 ⟨rfl, hw0⟩
  have r0 : RdAt w0 R s false := by rw [hw0, ← hR]; exact RdAt.made _ _ _
  have b0 : Below R w w0 := by rw [hw0]; exact (Below.refl _ _).alloc (by omega) _
  have hs0 : w0.heap.size = R + 1 := by rw [hw0, ← hR]; simp
  rw [hR]
  clear hw0
  go_wp2_with (fail)
  refine (cT.out _ r0).mono ?_
  rintro e w1 ⟨rfl, r1⟩
  have b1 := b0.trans (r1.below (Nat.le_refl _) (by omega))
  have s1 := r1.size
  go_wp2_with (fail)
  refine (cN.out _ r1.r).mono ?_
  rintro e w2 ⟨rfl, r2⟩
  have b2 := b1.trans (r2.below (Nat.le_refl _) (by omega))
  have s2 := r2.size
  go_wp2_with (fail)
  refine (cM.out _ r2.r).mono ?_
  rintro e w3 ⟨rfl, r3⟩
  have b3 := b2.trans (r3.below (Nat.le_refl _) (by omega))
  have s3 := r3.size
  have r3r := r3.r
  clear b0 b1 b2 r0 r1 r2 r3 cT cN cM
  go_wp2_with (fail)
  go_loopw [8, 9] (fun o i wr => ∃ k : Nat, k ≤ (min n 9) ∧ i = .int .i64 (k : Int) ∧ OwnE volE wr (R + 1) 24 o (getV s k) ∧ RdAt wr R (rVs k (p2 s)).2.s (rVs k (p2 s)).2.b ∧ Below R w wr ∧ R + 1 ≤ wr.heap.size) (fun _ i _ => (min n 9) - (intOf i).toNat)
  case atStart => exact ⟨0, by omega, rfl, by rw [hzero.1]; exact OwnE.nil _ _ _ _, by rw [hzero.2]; exact r3r, b3, by omega⟩
  case round =>
    obtain ⟨k, hk, rfl, ho, hr, hB, hBs⟩ := hrel
    obtain ⟨o, rfl⟩ : ∃ o, o = u8 := ⟨_, rfl⟩
    rename World => wr
    have hl := hlen k
    by_cases hlt : k < (min n 9)
    · have x1 : (k : Int) < (n : Int) := by omega
      have x2 : (k : Int) ≤ 8 := by omega
      have hst := (hstep k).1
      have hst2 : (rVs (k + 1) (p2 s)).2 = rVR (rVs k (p2 s)).2 := by rw [(hstep k).2]
      have hz := hsz k
      generalize (rVs k (p2 s)).2 = q at *
      have z3 := rNumR_size q 1
      obtain ⟨lg, hlg⟩ : ∃ lg, rNum q 1 = lg := ⟨_, rfl⟩
      have hlg256 : lg < 256 := by rw [← hlg]; exact rNum_lt q 1
      have c1 := rrnum_q R q 1 wr hr hz
      have hV : Hid (rV q = ⟨(rTxt (rNumR q 1) 6).extract 0 (min lg (rTxt (rNumR q 1) 6).size), ((rNum (rTxtR (rNumR q 1) 6) 2 : Nat) : Int), ((rNum (rNumR (rTxtR (rNumR q 1) 6) 2) 1 : Nat) : Int)⟩) := Lib.hid (by rw [rV, rPad, hlg])
      have hVR : Hid (rVR q = rNumR (rNumR (rTxtR (rNumR q 1) 6) 2) 1) := Lib.hid rfl
      rw [hlg] at c1
      clear hlg
      generalize rNumR q 1 = q1 at *
      have z4 := rTxtR_size q1 6
      have hpz : (rTxt q1 6).size ≤ q1.s.size := txt_size _ _ _
      have cT := fun W hW => rrtxt_q R q1 6 W hW (by omega)
      generalize rTxtR q1 6 = q2 at *
      generalize rTxt q1 6 = pad at *
      have z5 := rNumR_size q2 2
      have cN2 := fun W hW => rrnum_q R q2 2 W hW (by omega)
      generalize hq3 : rNumR q2 2 = q3 at *
      have cN1 := fun W hW => rrnum_q R q3 1 W hW (by omega)
      generalize rNumR q3 1 = q4 at *
      generalize rNum q2 2 = sz at *
      generalize rNum q3 1 = rt at *
      clear hq3
      obtain ⟨m, hm⟩ : ∃ m, min lg pad.size = m := ⟨_, rfl⟩
      have hmin : min (lg : Int) (pad.size : Int) = (m : Int) := by omega
      have hml : m ≤ pad.size := by omega
      have hcut := fun W => to_run (P := Try.prog) (T := 9) Try.underlying9 pad m hml W
      have hmz : (m : Int) ≤ (pad.size : Int) := by omega
      rw [hm] at hV
      clear hm
      generalize pad.extract 0 m = nm at *
      go_wp2_with (fail)
      refine c1.mono ?_
      rintro e w4 ⟨rfl, r4⟩
      go_wp2_with (fail)
      refine (cT _ r4.r).mono ?_
      rintro e w5 ⟨rfl, r5⟩
      have r45 := r4.trans r5
      go_wp2_with (fail)
      refine (cN2 _ r5.r).mono ?_
      rintro e w6 ⟨rfl, r6⟩
      have r46 := r45.trans r6
      go_wp2_with (fail)
      refine (cN1 _ r6.r).mono ?_
      rintro e w7 ⟨rfl, r7⟩
      have r47 := r46.trans r7
      have o4 := ho.rd r47 (by omega)
      have B4 := hB.trans (r47.below (Nat.le_refl _) (by omega))
      have s4 := r47.size
      obtain ⟨v', w', hap, o', b'⟩ := o4.pushV (by omega) (by omega) ⟨nm, (sz : Int), (rt : Int)⟩
      have s5 := b'.size
      have r8 := r47.r.below b' (by omega)
      have B5 := B4.trans (b'.mono (by omega))
      have o5 := Lib.hid o'
      clear o' o4 ho hr r4 r5 r6 r7 r45 r46 r47 b' c1 cT cN1 cN2
      go_wp2_with (at_builtin; refine wpList_append_run hap _ _ rfl rfl rfl rfl rfl ?_)
      go_roundw
      case rel => exact ⟨k + 1, by omega, by go_num, by rw [hst, hV.out]; exact o5.out, by rw [hst2, hVR.out]; exact r8, B5, by omega⟩
      case measure => simp [intOf]; omega
    · obtain rfl : k = (min n 9) := by omega
      have hread := ho.reads
      have hvo := hVok (min n 9)
      have hiB := hisB (min n 9)
      have hget := hone (min n 9) rfl
      have hsm := hsome (min n 9) (.inl rfl)
      clear hsome hone hVok hlen hsz hstep hzero hisB
      generalize getV s (min n 9) = l at *
      obtain ⟨K, hK⟩ : ∃ K, min n 9 = K := ⟨_, rfl⟩
      rw [hK] at hl
      try rw [hK]
      have hcase : (K : Int) = (n : Int) ∧ ((K : Int) < (n : Int)) = False ∨ ((K : Int) < (n : Int)) ∧ ((K : Int) ≤ 8) = False := by
        by_cases h9 : n ≤ 9
        · exact .inl ⟨by omega, by rw [eq_iff_iff, iff_false]; omega⟩
        · exact .inr ⟨by omega, by rw [eq_iff_iff, iff_false]; omega⟩
      clear hK
      rcases hcase with ⟨_, x1⟩ | ⟨x1, x2⟩
      · have x1n : ¬ ((K : Int) < (n : Int)) := by rw [x1]; exact id
        cases hr2 : rightB N l with
        | false =>
          have cp := fun W hW => rput_any N o l W hW hvo
          rw [show putE N l = 180 by rw [putE, hr2]; rfl] at cp
          have hz := hget (by rw [hiB, hr2, Bool.false_and])
          generalize putL N l = t at *
          have hn := hnone hz
          clear hget hiB hsm hr2
          go_wp2_with (fail)
          refine (cp _ hread).mono ?_
          rintro e w6 ⟨rfl, b6⟩
          go_wp2_with (fail)
          go_ret3
          exact hn _ (hB.trans (b6.mono (by omega)))
        | true =>
          have cp := fun W hW => rput_any N o l W hW hvo
          rw [show putE N l = 0 by rw [putE, hr2]; rfl] at cp
          have he := toL_eq (putL N l) s
          rw [hr2, Bool.true_and] at hiB
          generalize putL N l = t at *
          cases hd : decide (t = s) with
          | false =>
            rw [hd] at he hiB
            have hz := hget hiB
            have hn := hnone hz
            clear hget hiB hsm hr2 hd
            go_wp2_with (fail)
            refine (cp _ hread).mono ?_
            rintro e w6 ⟨rfl, b6⟩
            go_wp2_with (fail)
            go_ret3
            exact hn _ (hB.trans (b6.mono (by omega)))
          | true =>
            rw [hd] at he hiB
            have hn := hsm hiB
            clear hget hiB hsm hr2 hd hnone
            have hoH := Lib.hid ho
            clear ho
            go_wp2_with (fail)
            refine (cp _ hread).mono ?_
            rintro e w6 ⟨rfl, b6⟩
            go_wp2_with (fail)
            go_ret3
            exact hn _ _ ((hoH.out.after b6).mono (by omega)) (hB.trans (b6.mono (by omega)))
      · have x2n : ¬ ((K : Int) ≤ 8) := by rw [x2]; exact id
        cases hr2 : rightB N l with
        | false =>
          have cp := fun W hW => rput_any N o l W hW hvo
          rw [show putE N l = 180 by rw [putE, hr2]; rfl] at cp
          have hz := hget (by rw [hiB, hr2, Bool.false_and])
          generalize putL N l = t at *
          have hn := hnone hz
          clear hget hiB hsm hr2
          go_wp2_with (fail)
          refine (cp _ hread).mono ?_
          rintro e w6 ⟨rfl, b6⟩
          go_wp2_with (fail)
          go_ret3
          exact hn _ (hB.trans (b6.mono (by omega)))
        | true =>
          have cp := fun W hW => rput_any N o l W hW hvo
          rw [show putE N l = 0 by rw [putE, hr2]; rfl] at cp
          have he := toL_eq (putL N l) s
          rw [hr2, Bool.true_and] at hiB
          generalize putL N l = t at *
          cases hd : decide (t = s) with
          | false =>
            rw [hd] at he hiB
            have hz := hget hiB
            have hn := hnone hz
            clear hget hiB hsm hr2 hd
            go_wp2_with (fail)
            refine (cp _ hread).mono ?_
            rintro e w6 ⟨rfl, b6⟩
            go_wp2_with (fail)
            go_ret3
            exact hn _ (hB.trans (b6.mono (by omega)))
          | true =>
            rw [hd] at he hiB
            have hn := hsm hiB
            clear hget hiB hsm hr2 hd hnone
            have hoH := Lib.hid ho
            clear ho
            go_wp2_with (fail)
            refine (cp _ hread).mono ?_
            rintro e w6 ⟨rfl, b6⟩
            go_wp2_with (fail)
            go_ret3
            exact hn _ _ ((hoH.out.after b6).mono (by omega)) (hB.trans (b6.mono (by omega)))
end Go.Proofs.Ytfmgoamgcjipkaa
