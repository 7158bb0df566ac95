/- member: MemberChooses. -/
import Derived.Test.YtbokglifgacodaaMemAwake
namespace Go.Proofs.Ytbokglifgacodaa
open Go.RowKit
set_option linter.unusedVariables false
set_option linter.unusedSimpArgs false

theorem Reads.to8 {P : Program} {S T : TypeId} {i : TypeInfo} (hT : P.underlying S = some (.slice T)) (hi : P.info? T = some i) (hs : i.size = 1) {w : World} {v : Value} {xs : List Value} (h : Reads w v xs) {a : Option Addr} {c : Nat} (hv : v = .slice a xs.length c) (hc : xs.length ≤ c) {m : Nat} (hm : m ≤ xs.length) :
    (∀ W, (Instr.slice S v none (some (.int .i64 (m : Int))) none).run P W = .ok (.slice a m c) W) ∧ Reads w (.slice a m c) (xs.take m) := by
  subst hv
  constructor
  · intro W
    have e2 : m ≤ c := by omega
    cases a <;> simp [Instr.slice, run_underlying hT, Instr.sliceBounds, Instr.sliceBound, asIntOf, sizeOf, typeInfo, hi, hs, e2, Addr.add]
  · rcases h with ⟨_, rfl⟩ | ⟨b, off, cap, e, hb, hx⟩
    · obtain rfl : m = 0 := by simpa using hm
      exact .inl ⟨⟨_, _, rfl⟩, rfl⟩
    · simp only [Value.slice.injEq] at e
      obtain ⟨rfl, _, rfl⟩ := e
      refine .inr ⟨b, off, c, by rw [List.length_take, Nat.min_eq_left hm], hb, fun j hj => ?_⟩
      rw [List.length_take, Nat.min_eq_left hm] at hj
      rw [hx j (by omega), List.getD_eq_getElem?_getD, List.getD_eq_getElem?_getD, List.getElem?_take, if_pos hj]
def secs (l : List Int) (k : Nat) : List ByteArray := (l.take k).map sec
theorem secs_len (l : List Int) (k : Nat) (h : k ≤ l.length) : (secs l k).length = k := by simp [secs]; omega
theorem secs_succ (l : List Int) (k : Nat) (h : k < l.length) : secs l k ++ [sec (l.getD k 0)] = secs l (k + 1) := by
  unfold secs
  rw [List.take_add_one, List.map_append, List.getElem?_eq_getElem h, List.getD_eq_getElem?_getD, List.getElem?_eq_getElem h]; rfl
theorem secs_get (l : List Int) (X j : Nat) (h : X ≤ l.length) (hj : j < X) : (secs l X).getD j zero128 = sec (l.getD j 0) := by
  unfold secs
  rw [List.getD_eq_getElem?_getD, List.getElem?_map, List.getElem?_take, if_pos hj, List.getElem?_eq_getElem (by omega), List.getD_eq_getElem?_getD, List.getElem?_eq_getElem (by omega)]; rfl
set_option maxRecDepth 100000 in
set_option maxHeartbeats 4000000 in
theorem chooses_walk (a0 a1 : Int) (v : Value) (l : List Int) (a3 : Int) (w : World) (n0 : -9223372036854775808 ≤ a0 ∧ a0 ≤ 9223372036854775807) (n1 : -9223372036854775808 ≤ a1 ∧ a1 ≤ 9223372036854775807)
    (hR : Reads w v (l.map (.int .i64))) (hC : ∃ a len cap, v = .slice a len cap ∧ len ≤ cap) (hF : ∀ n ∈ l, (Lit.int .i64 n).wf = true) (n3 : -9223372036854775808 ≤ a3 ∧ a3 ≤ 9223372036854775807) :
    Calls Try.prog 5 #[.int .i64 a0, .int .i64 a1, v, .int .i64 a3] w (Ends w true) := by
  obtain ⟨r0, hr0⟩ : ∃ r, pickC a0 % 256 = r := ⟨_, rfl⟩
  have hr0b : r0 < 256 := by rw [← hr0]; exact Nat.mod_lt _ (by omega)
  obtain ⟨at_, hat⟩ : ∃ r, pickC a1 % (r0 + 1) = r := ⟨_, rfl⟩
  have hatb : at_ < r0 + 1 := by rw [← hat]; exact Nat.mod_lt _ (by omega)
  have cp0 : ∀ W, Calls Try.prog 13 #[.int .i64 a0, .int .i64 256] W fun e w' => e = .returned (.int .i64 (r0 : Int)) ∧ W = w' := fun W => by
    have := pick_any a0 256 (in64_iff.2 n0) (by omega) (by omega) W
    rw [hr0] at this; exact this
  have eN : ((r0 + 1 : Nat) : Int) = 1 + (r0 : Int) := by omega
  have cp1 : ∀ W, Calls Try.prog 13 #[.int .i64 a1, .int .i64 (1 + (r0 : Int))] W fun e w' => e = .returned (.int .i64 (at_ : Int)) ∧ W = w' := fun W => by
    have := pick_any a1 (r0 + 1) (in64_iff.2 n1) (by omega) (by omega) W
    rw [hat, eN] at this; exact this
  have wN : IntKind.i64.wrap (1 + (r0 : Int)) = 1 + (r0 : Int) := wrap_in (by omega) (by omega)
  have cN : ∀ W, Calls Try.prog 11 #[.int .i64 (1 + (r0 : Int))] W fun e w' => ∃ m g bp cap, MBs W m g bp cap (List.replicate (r0 + 1) zero128) noV (.tuple #[.pointer (some ⟨m, 0, none⟩), .int .i64 0]) e w' := fun W => by
    have := mb_new (r0 + 1) W (by omega) (by omega)
    rw [eN] at this; exact this
  obtain ⟨X, hX⟩ : ∃ X, X = min l.length 50 := ⟨_, rfl⟩
  have hXl : X ≤ l.length := by omega
  have hX50 : X ≤ 50 := by omega
  obtain ⟨a, len, cap0, rfl, hlc⟩ := hC
  have hlen : len = l.length := by
    rcases hR with ⟨⟨a', c', e⟩, e2⟩ | ⟨b, off, c', e, _, _⟩
    · simp only [Value.slice.injEq] at e
      have : l = [] := by simpa using e2
      rw [this]; exact e.2.1
    · simp only [Value.slice.injEq] at e
      rw [e.2.1, List.length_map]
  subst hlen
  have hi8 : ∃ i, Try.prog.info? 3 = some i ∧ i.size = 1 := by
    have : (Try.prog.info? 3).map (·.size) = some 1 := by kernel_rfl
    cases h : Try.prog.info? 3 with
    | none => rw [h] at this; cases this
    | some i => rw [h] at this; exact ⟨i, rfl, by simpa using this⟩
  obtain ⟨i8, i81, i82⟩ := hi8
  obtain ⟨hsl, hR2⟩ := hR.to8 (P := Try.prog) (S := 31) Try.underlying31 i81 i82 (a := a) (c := cap0) (by rw [List.length_map]) (by rw [List.length_map]; exact hlc) (m := X) (by rw [List.length_map]; exact hXl)
  have hmn : ∀ W, (Builtin.min_ #[3, 3] 3 #[.int .i64 (l.length : Int), .int .i64 50]).run Try.prog W = .ok (.int .i64 (X : Int)) W := fun W => by
    have e : (if (50 : Int) < (l.length : Int) then (50 : Int) else (l.length : Int)) = (X : Int) := by split <;> omega
    simp [Builtin.min_, Builtin.min2, e]
  have hIn : ∀ k, k < l.length → In64 (l.getD k 0) := fun k hk => by
    rw [List.getD_eq_getElem?_getD, List.getElem?_eq_getElem hk]; exact hF _ (List.getElem_mem hk)
  obtain ⟨J, hJ⟩ : ∃ J, pickC a3 % (X + 1) = J := ⟨_, rfl⟩
  have hJX : J ≤ X := by have := Nat.mod_lt (pickC a3) (show 0 < X + 1 by omega); omega
  have cp3 : ∀ W, Calls Try.prog 13 #[.int .i64 a3, .int .i64 ((X : Int) + 1)] W fun e w' => e = .returned (.int .i64 (J : Int)) ∧ W = w' := fun W => by
    have := pick_any a3 (X + 1) (in64_iff.2 n3) (by omega) (by omega) W
    rw [hJ] at this; exact this
  have wX : IntKind.i64.wrap ((X : Int) + 1) = (X : Int) + 1 := wrap_in (by omega) (by omega)
  have hRep : (List.replicate (r0 + 1) zero128).length = r0 + 1 := by simp
  have hcr : crash (List.replicate (r0 + 1) zero128) (updZ noV at_ (secs l X)) [a3] = if J = 0 then List.replicate (r0 + 1) zero128 else (List.replicate (r0 + 1) zero128).set at_ (sec (l.getD (J - 1) 0)) := by
    rw [crash_one _ _ _ (by rw [hRep]; exact hatb), secs_len l X hXl, hJ]
    by_cases h : J = 0
    · rw [if_pos h, if_pos h]
    · rw [if_neg h, if_neg h, secs_get l X (J - 1) hXl (by omega)]
  have haI := in64_nat at_ (by omega)
  have h3I := in64_iff.2 n3
  have hcl : ((List.replicate (r0 + 1) zero128).set at_ (sec (l.getD (J - 1) 0))).length = r0 + 1 := by simp
  clear hF hR n0 n1 n3 hr0 hat hX hJ i81 i82 hlc eN
  go_enter Try.func5, Try.ntmps5
  go_wp2_with (fail)
  refine (awake_any _).mono ?_
  rintro e w1 ⟨rfl, b1⟩
  have hR3 := hR2.below b1
  go_wp2_with (fail)
  refine (cp0 _).mono ?_
  rintro e w2 ⟨rfl, rfl⟩
  go_wp2_with (fail)
  refine (cp1 _).mono ?_
  rintro e w2 ⟨rfl, rfl⟩
  go_wp2_with (fail)
  refine (cN _).mono ?_
  rintro e w2 ⟨m, g, bp, cap, rfl, h1⟩
  have h1' : MB w1 w2 m g bp cap (List.replicate (r0 + 1) zero128) (updZ noV at_ (secs l 0)) := by
    have e : secs l 0 = [] := rfl
    rw [e, updZ_noV]; exact h1
  have hb1H := Lib.hid b1
  clear h1 hR2 b1 cN cp0 cp1
  go_wp2_with (fail)
  go_loopw [13] (fun t wr => ∃ k : Nat, k ≤ X ∧ t = .int .i64 (k : Int) ∧ MB w1 wr m g bp cap (List.replicate (r0 + 1) zero128) (updZ noV at_ (secs l k))) (fun t _ => X - (intOf t).toNat)
  case atStart => exact ⟨0, by omega, rfl, h1'⟩
  case round =>
    obtain ⟨k, hk, rfl, hB⟩ := hrel
    by_cases hlt : k < X
    · have hRr := hR3.below hB.b
      obtain ⟨cell⟩ : Nonempty (∃ cb co, a = some ⟨cb, co, none⟩ ∧ cb < wr.heap.size ∧ wr.cell? ⟨cb, co + k, none⟩ = some (.int .i64 (l.getD k 0))) := by
        rcases hRr with ⟨⟨a', c', e⟩, e2⟩ | ⟨b, off, c', e, hb, hx⟩
        · simp only [Value.slice.injEq] at e; omega
        · simp only [Value.slice.injEq] at e
          refine ⟨b, off, e.1, hb, ?_⟩
          rw [hx k (by rw [List.length_take, List.length_map]; omega), List.getD_eq_getElem?_getD, List.getElem?_take, if_pos hlt, List.getElem?_map, List.getElem?_eq_getElem (by omega), List.getD_eq_getElem?_getD, List.getElem?_eq_getElem (by omega)]; rfl
      obtain ⟨cb, co, rfl, hcb, hc⟩ := cell
      have cS := fun W => sector_any (l.getD k 0) (hIn k (by omega)) W
      have hsu := secs_succ l k (by omega)
      have hsl := secs_len l k (by omega)
      generalize l.getD k 0 = c at *
      have k1 : (k : Int) < (X : Int) := by omega
      clear hRr hlt
      go_wp2_with (fail)
      refine (cS _).mono ?_
      rintro e w3 ⟨rfl, b3⟩
      have h3 := hB.after b3
      have cW := mb_write h3 at_ (by rw [hRep]; exact hatb) (sec c) (sec_size c) (by rw [updZ_same, hsl]; omega)
      rw [updZ_same, updZ_twice, hsu] at cW
      clear h3 hB b3 hc
      go_wp2_with (fail)
      refine cW.mono ?_
      rintro e w4 ⟨rfl, h4⟩
      clear cW
      go_wp2_with (fail)
      go_roundw
      case rel => exact ⟨k + 1, by omega, by go_num, h4⟩
      case measure => simp [intOf]; omega
    · obtain rfl : k = X := by omega
      have hsl2 := secs_len l k hXl
      have cC := mb_crash hB a3 h3I (fun z => by
        unfold updZ noV
        by_cases e : z = (at_ : Int)
        · rw [if_pos e, hsl2]; omega
        · rw [if_neg e]; simp)
      rw [hcr] at cC
      obtain ⟨L', hL'⟩ : ∃ L', (if J = 0 then List.replicate (r0 + 1) zero128 else (List.replicate (r0 + 1) zero128).set at_ (sec (l.getD (J - 1) 0))) = L' := ⟨_, rfl⟩
      rw [hL'] at cC
      have hLn : at_ < L'.length := by
        rw [← hL']
        split
        · rw [hRep]; exact hatb
        · rw [hcl]; exact hatb
      have hRr := hR3.below hB.b
      have hLv : L'[at_] = sec (if J = 0 then 0 else l.getD (J - 1) 0) := by
        subst hL'
        by_cases h : J = 0
        · simp only [if_pos h]; rw [List.getElem_replicate]; exact sec_zero.symm
        · simp only [if_neg h]; rw [List.getElem_set, if_pos rfl]
      obtain ⟨z, hz⟩ : ∃ z, (if J = 0 then (0 : Int) else l.getD (J - 1) 0) = z := ⟨_, rfl⟩
      rw [hz] at hLv
      have hzH := Lib.hid hz
      have hLvH := Lib.hid hLv
      clear hLv hL' hcr hz
      clear hB hsl2
      go_wp2_with (fail)
      refine cC.mono ?_
      rintro e w5 ⟨rfl, h5⟩
      clear cC
      have cR := mb_read h5 at_ hLn (by simp [noV])
      rw [show lastOf (noV (at_ : Int)) L'[at_] = L'[at_] from rfl, hLvH.out] at cR
      go_wp2_with (fail)
      refine cR.mono ?_
      rintro e w6 ⟨rfl, b6⟩
      have h6 := h5.after b6
      clear cR h5 b6
      have cZ : ∀ W, Calls Try.prog 15 #[.int .i64 0] W (GivesS W (sec 0)) := fun W => sector_any 0 (in64_iff.2 (by omega)) W
      go_wp2_with (fail)
      refine (cZ _).mono ?_
      rintro e w7 ⟨rfl, b7⟩
      have h7 := h6.after b7
      clear cZ h6 b7
      go_wp2_with (fail)
      refine (cp3 _).mono ?_
      rintro e w8 ⟨rfl, rfl⟩
      clear cp3
      by_cases hJ0 : J = 0
      · subst hJ0
        have cV := mb_vers h7 at_ haI
        have hz0 : z = 0 := by have := hzH.out; rw [if_pos rfl] at this; exact this.symm
        subst hz0
        have hfin := Lib.hid (hb1H.out.trans (h7.b.mono hb1H.out.size))
        clear h7 hLvH hRr hzH
        generalize sec 0 = s0 at *
        go_wp2_with (fail)
        refine cV.mono ?_
        rintro e w9 ⟨rfl, rfl⟩
        go_wp2_with (fail)
        go_ret
        exact ⟨rfl, hfin.out⟩
      · obtain ⟨j, rfl⟩ : ∃ j, J = j + 1 := ⟨J - 1, by omega⟩
        have hz0 : z = l.getD j 0 := by have := hzH.out; rw [if_neg hJ0, show j + 1 - 1 = j by omega] at this; exact this.symm
        clear hzH
        subst hz0
        have hRr7 : Reads w7 (.slice a k cap0) ((l.map (.int .i64)).take k) := hR3.below h7.b
        obtain ⟨cell⟩ : Nonempty (∃ cb co, a = some ⟨cb, co, none⟩ ∧ w7.cell? ⟨cb, co + j, none⟩ = some (.int .i64 (l.getD j 0))) := by
          rcases hRr7 with ⟨⟨a', c', e⟩, e2⟩ | ⟨b, off, c', e, hb, hx⟩
          · simp only [Value.slice.injEq] at e; omega
          · simp only [Value.slice.injEq] at e
            refine ⟨b, off, e.1, ?_⟩
            rw [hx j (by rw [List.length_take, List.length_map]; omega), List.getD_eq_getElem?_getD, List.getElem?_take, if_pos (by omega), List.getElem?_map, List.getElem?_eq_getElem (by omega), List.getD_eq_getElem?_getD, List.getElem?_eq_getElem (by omega)]; rfl
        obtain ⟨cb, co, rfl, hc⟩ := cell
        have cS := fun W => sector_any (l.getD j 0) (hIn j (by omega)) W
        generalize l.getD j 0 = c at *
        have x1 : (j : Int) < (k : Int) := by omega
        have x2 : (0 : Int) < (j : Int) + 1 := by omega
        have x3 : IntKind.i64.wrap (j : Int) = (j : Int) := wrap_in (by omega) (by omega)
        clear hRr hRr7 hLvH
        go_wp2_with (fail)
        refine (cS _).mono ?_
        rintro e w9 ⟨rfl, b9⟩
        have h9 := h7.after b9
        have cV := mb_vers h9 at_ haI
        have hfin := Lib.hid (hb1H.out.trans (h9.b.mono hb1H.out.size))
        clear h7 h9 b9 hc
        generalize sec c = s0 at *
        go_wp2_with (fail)
        refine cV.mono ?_
        rintro e w10 ⟨rfl, rfl⟩
        go_wp2_with (fail)
        go_ret
        exact ⟨rfl, hfin.out⟩
end Go.Proofs.Ytbokglifgacodaa

