/- 'stavelaw10.LabelCounts' returns true: of the labels of one array the one of the greatest generation counts, of the least slot among equals; what is spoilt changes nothing for the others. For every input that fits the row; the listed tables start as the program's text lays them. -/
import Derived.Test.YtaopknddpagjeaaDoorRows
import Derived.Test.YtaopknddpagjeaaDoorLabLaw6
import Derived.Test.YtaopknddpagjeaaDoorLabArgs
import Derived.Test.YtaopknddpagjeaaDoorIntRng
import Derived.Test.YtaopknddpagjeaaDoorCards
import Derived.Test.YtaopknddpagjeaaDoorTie
import Derived.SevenTiedAt
import Derived.WalkKit
import Derived.ProofKit
import Derived.MakeChecks
import Derived.Lay
import Derived.LaidOnce
import Derived.Test.YtaopknddpagjeaaDoorOwn
import Derived.LaidMore
import Derived.OpenShut
import Derived.ShutString
import Derived.ChangeOld
import Derived.Below
import Derived.SizedLaws
import Derived.Lib.SmallJoins

namespace Go.Proofs.YtaopknddpagjeaaDoor.labelCountsDone
open Go.ChangeShapes Go.WideShapes Go.ChangeAt Go.RowKit
open Go.ChangeMaps (open_string shut_string)
set_option linter.unusedVariables false
set_option linter.unusedSimpArgs false


set_option maxRecDepth 100000 in
theorem lifted (os : Os) (started : os.Started) (H : Type) (enc : TypeId × Value → H) :
    ReturnsInHanded {} Tryd.checked os 6 .any (fun w args => (Rows.labelCountsSpec.pre enc Tryd.prog Tryd.f6 [] false w args ∧ laidMetH Tryd.prog [("unicode/utf8.acceptRanges", Rows.laid_unicode_utf8_acceptRanges), ("unicode/utf8.first", Rows.laid_unicode_utf8_first)] w) ∧ sizedMet enc Tryd.prog Tryd.f6 (OpenSpec.ofChange Rows.labelCountsSpec) false w args)
      (Rows.labelCountsSpec.post enc Tryd.prog Tryd.f6 false true false false) := by
  refine returnsInHanded_of_change_and (C := Tryd.checked) (X := fun w _ => laidMetH Tryd.prog [("unicode/utf8.acceptRanges", Rows.laid_unicode_utf8_acceptRanges), ("unicode/utf8.first", Rows.laid_unicode_utf8_first)] w) (fun _ _ _ hh h => h.of_heap hh) own started (by kernel_rfl) Tryd.func6
    (ChangeSpec.witness_shaped (enc := enc) (C := Tryd.checked) (os := os) (X := fun w _ => laidMetH Tryd.prog [("unicode/utf8.acceptRanges", Rows.laid_unicode_utf8_acceptRanges), ("unicode/utf8.first", Rows.laid_unicode_utf8_first)] w) false (World.laidAll Tryd.prog os [("unicode/utf8.acceptRanges", Rows.laid_unicode_utf8_acceptRanges), ("unicode/utf8.first", Rows.laid_unicode_utf8_first)]) #[.agg #[.int .i64 0, .int .i64 0, .int .i64 0, .int .i64 0, .int .i64 0, .int .i64 0, .slice none 0 0, .slice none 0 0, .slice none 0 0], .slice none 0 0, .slice none 0 0, .agg #[.int .i64 0, .int .i64 0, .int .i64 0, .int .i64 0, .int .i64 0, .int .i64 0, .slice none 0 0, .slice none 0 0, .slice none 0 0]] 8 (World.laidAll_os _ _ _) (World.shaped_of_ZipB (by kernel_rfl) (by kernel_rfl)) (by kernel_rfl) (by kernel_rfl) (by kernel_rfl) (by rw [MakeChecks.laidMetH_plain _ _ _ (by kernel_rfl)]; exact laidMet_laidAll _ (by kernel_rfl) (by kernel_rfl))) ?_
  intro W base args ds gs before hval0 hW hcnd0 hsz0 hL _
  have hval : ∀ (j : Nat) t v, Tryd.f6.params[j]? = some t → args[j]? = some v → Value.okWide Tryd.prog W .any base t v := hval0
  have hW' := hW
  obtain ⟨p, q, hA0, hV, rfl, hfz, hnd⟩ := hW
  have hA : DataW.TrodAll enc Tryd.prog W 0 (fun _ => true) true Tryd.f6.params.toList args.toList ds p := hA0
  have hsz : (DataW.weightsEach Tryd.prog (Tryd.f6.params.toList ++ Rows.labelCountsSpec.plain.varTypes Tryd.prog) (ds ++ gs)).all (· ≤ reachBytes) = true := hsz0
  rw [Tryd.params6] at hA hval hsz
  obtain ⟨v0, vs0, d0, ds0, p0, q0, hargs, rfl, rfl, h0, r0⟩ := trodAll_cons hA
  obtain ⟨v1, vs1, d1, ds1, p1, q1, rfl, rfl, rfl, h1, r1⟩ := trodAll_cons r0
  obtain ⟨v2, vs2, d2, ds2, p2, q2, rfl, rfl, rfl, h2, r2⟩ := trodAll_cons r1
  obtain ⟨v3, vs3, d3, ds3, p3, q3, rfl, rfl, rfl, h3, r3⟩ := trodAll_cons r2
  obtain ⟨rfl, rfl, rfl⟩ := trodAll_nil r3
  obtain rfl : args = #[v0, v1, v2, v3] := by cases args; simp_all
  obtain ⟨rfl, rfl⟩ := trodVars_none hV
  have k0 := h0
  have lt0 : ∀ x ∈ p0, x.block < W.heap.size := by obtain ⟨m, hm⟩ := k0; exact DataW.trod_lt m _ _ _ hm
  have k1 := h1
  have lt1 : ∀ x ∈ p1, x.block < W.heap.size := by obtain ⟨m, hm⟩ := k1; exact DataW.trod_lt m _ _ _ hm
  have k2 := h2
  have lt2 : ∀ x ∈ p2, x.block < W.heap.size := by obtain ⟨m, hm⟩ := k2; exact DataW.trod_lt m _ _ _ hm
  have k3 := h3
  have lt3 : ∀ x ∈ p3, x.block < W.heap.size := by obtain ⟨m, hm⟩ := k3; exact DataW.trod_lt m _ _ _ hm
  obtain ⟨x0, va0, vb0, vc0, da0, db0, dc0, ys0, rfl, Ra0, Rb0, Rc0, N0, rfl, ea0, eb0, ec0, ka0, kb0, kc0⟩ := open_raw (hval 0 36 v0 rfl rfl) h0
  obtain ⟨sa0, sb0, sc0⟩ := lens_raw hsz (j := 0) rfl rfl ea0 eb0 ec0 ka0 kb0 kc0
  have X0 : LR W x0 va0 vb0 vc0 := ⟨Ra0, Rb0, Rc0, by omega, by omega, by omega⟩
  obtain ⟨l1, R1, C1, F1, D1⟩ := open_nums Tryd.underlying24 Tryd.underlying3 (by kernel_rfl) (hval 1 24 v1 rfl rfl) h1
  have S1 := sized_nums hsz (j := 1) (t := 24) rfl rfl Tryd.underlying24 (by kernel_rfl) (n := 8) (by decide) D1
  obtain ⟨l2, R2, C2, F2, D2⟩ := open_nums Tryd.underlying24 Tryd.underlying3 (by kernel_rfl) (hval 2 24 v2 rfl rfl) h2
  have S2 := sized_nums hsz (j := 2) (t := 24) rfl rfl Tryd.underlying24 (by kernel_rfl) (n := 8) (by decide) D2
  obtain ⟨x3, va3, vb3, vc3, da3, db3, dc3, ys3, rfl, Ra3, Rb3, Rc3, N3, rfl, ea3, eb3, ec3, ka3, kb3, kc3⟩ := open_lbl (hval 3 26 v3 rfl rfl) h3
  obtain ⟨sa3, sb3, sc3⟩ := lens_lbl hsz (j := 3) rfl rfl ea3 eb3 ec3 ka3 kb3 kc3
  have X3 : LR W x3 va3 vb3 vc3 := ⟨Ra3, Rb3, Rc3, by omega, by omega, by omega⟩
  clear hA0 hval0
  have hwalk : Calls Tryd.prog 6 #[x0.v va0 vb0 vc0, v1, v2, x3.v va3 vb3 vc3] W fun e w' => e = .returned (.bool true) ∧ Below W.heap.size W w' := by
    exact lcounts_walk x0 va0 vb0 vc0 l1 v1 l2 v2 x3 va3 vb3 vc3 W X0 N0 R1 (fun n hn => wf_rng (F1 n hn)) (by omega) R2 (fun n hn => wf_rng (F2 n hn)) (by omega) X3
  refine hwalk.mono fun e W' ⟨he, bel⟩ => ?_
  subst he
  exact ⟨_, rfl, _, _, _, [], _, [], hW', trodAll_mk1 (shut_bool Tryd.underlying4 _), (trodAll_cons_mk (Below.trod laidOut (by kernel_rfl) (of_decide_eq_true (by kernel_rfl)) k0 bel lt0) (trodAll_cons_mk (Below.trod laidOut (by kernel_rfl) (of_decide_eq_true (by kernel_rfl)) k1 bel lt1) (trodAll_cons_mk (Below.trod laidOut (by kernel_rfl) (of_decide_eq_true (by kernel_rfl)) k2 bel lt2) (trodAll_cons_mk (Below.trod laidOut (by kernel_rfl) (of_decide_eq_true (by kernel_rfl)) k3 bel lt3) trodAll_mk0)))), rfl, bel.frame _, fun h => by cases h⟩

theorem over : Rows.labelCountsRow.holds Tryd.pinned (OpenSpec.ofChange Rows.labelCountsSpec) :=
  OpenClaim.holds_of_wide 6 Tryd.f6 rfl rfl rfl rfl rfl rfl rfl ⟨rfl, rfl, rfl, rfl, rfl⟩ rfl rfl rfl rfl rfl (by kernel_rfl) Tryd.func6 (by kernel_rfl)
    (of_decide_eq_true (by kernel_rfl)) (by unfold Func.isWrapper; first | (rw [if_pos (by decide +kernel)]; kernel_rfl) | (rw [if_neg (by decide +kernel)]; exact ⟨rfl, rfl⟩))
    (fun os started H enc _ => lifted os started H enc)
end Go.Proofs.YtaopknddpagjeaaDoor.labelCountsDone
namespace Go.Proofs.YtaopknddpagjeaaDoor
open Go
theorem labelCounts_holds : Rows.LabelCountsCardSaid :=
  Claim7.holds_tied_plain_at .later [] [.data, .pinned] true _ false
    labelCountsDone.over (fun _ h => by cases h) (by kernel_rfl) (fun _ h => by cases h) labelCounts_row_tie rfl ⟨rfl, rfl⟩ (by kernel_rfl) rfl
    (fun f fn hf hfn => by
      obtain rfl : f = 6 := Option.some.inj ((show Tryd.prog.funcNamed "stave/stavelaw10.LabelCounts" = some 6 by kernel_rfl).symm.trans hf) |>.symm
      obtain rfl : fn = Tryd.f6 := (Option.some.inj (Tryd.func6.symm.trans hfn)).symm
      exact ⟨by kernel_rfl, fun j t ht => by
        rw [Tryd.params6] at ht
        have hm : t ∈ [36, 24, 24, 26] := by simpa using Array.mem_of_getElem? ht
        have hall : ([36, 24, 24, 26].all fun u => !Tryd.prog.wantsStandIn u) = true := by kernel_rfl
        exact (show Tryd.prog.wantsStandIn t = false by simpa using List.all_eq_true.1 hall t hm)⟩)
    (by kernel_rfl)
#print axioms labelCounts_holds
end Go.Proofs.YtaopknddpagjeaaDoor
