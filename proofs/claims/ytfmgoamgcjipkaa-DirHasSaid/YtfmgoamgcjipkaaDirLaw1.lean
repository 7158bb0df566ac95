/- dir's laws: the first calls, and DirTells. -/
import Derived.Test.YtfmgoamgcjipkaaDirAwake
namespace Go.Proofs.Ytfmgoamgcjipkaa
open Go.RowKit
set_option linter.unusedVariables false
set_option linter.unusedSimpArgs false
open Dr

set_option maxRecDepth 100000 in
set_option maxHeartbeats 8000000 in
theorem dawake_any (w : World) : Calls Try.prog 8 #[] w (Tells w (.bool true)) := by
  obtain ⟨w1, hw1⟩ : ∃ W, W = w.alloc (.cells #[.string ⟨#[97]⟩, .int .i64 1, .int .i64 0, .string ⟨#[99]⟩, .int .i64 0, .int .i64 4] 24) := ⟨_, rfl⟩
  obtain ⟨G, hG⟩ : ∃ G, w.heap.size = G := ⟨_, rfl⟩
  have hbox : Below w.heap.size w w1 := by rw [hw1]; exact (Below.refl _ _).alloc (Nat.le_refl _) _
  have R0 : ReadsE volE w1 (.slice (some ⟨G, 0, none⟩) 2 2) L0 := by rw [hw1, ← hG]; exact (OwnE.lit volE w 24 L0 #[.string ⟨#[97]⟩, .int .i64 1, .int .i64 0, .string ⟨#[99]⟩, .int .i64 0, .int .i64 4] rfl (by decide)).reads
  have rd : ∀ W, Below w1.heap.size w1 W → ReadsE volE W (.slice (some ⟨G, 0, none⟩) 2 2) L0 := fun W h => R0.below h
  have c1 : ∀ W, Below w1.heap.size w1 W → Calls Try.prog 10 #[.slice (some ⟨G, 0, none⟩) 2 2, .agg #[.string ⟨#[98]⟩, .int .i64 0, .int .i64 0]] W (GivesVE W (addL L0 vB) 0) := fun W h => by
    have := add_any _ L0 vB W (rd W h) (by decide) (by decide); rw [a_b.1] at this; exact this
  have c2 : ∀ W, Below w1.heap.size w1 W → Calls Try.prog 10 #[.slice (some ⟨G, 0, none⟩) 2 2, .agg #[.string ⟨#[97]⟩, .int .i64 0, .int .i64 0]] W (GivesVE W (addL L0 vA0) 182) := fun W h => by
    have := add_any _ L0 vA0 W (rd W h) (by decide) (by decide); rw [a_a] at this; exact this
  have c3 : ∀ W, Below w1.heap.size w1 W → Calls Try.prog 10 #[.slice (some ⟨G, 0, none⟩) 2 2, .agg #[.string ⟨#[66]⟩, .int .i64 0, .int .i64 0]] W (GivesVE W (addL L0 vX) 181) := fun W h => by
    have := add_any _ L0 vX W (rd W h) (by decide) (by decide); rw [a_X] at this; exact this
  have c4 : ∀ W, Below w1.heap.size w1 W → Calls Try.prog 14 #[.slice (some ⟨G, 0, none⟩) 2 2, .string ⟨#[100]⟩] W (GivesVE W (remL L0 ⟨#[100]⟩) 183) := fun W h => by
    have := remove_any _ L0 ⟨#[100]⟩ W (rd W h) (by decide); rw [r_d] at this; exact this
  have c5 : ∀ W, Below w1.heap.size w1 W → Calls Try.prog 16 #[.int .i64 9, .slice (some ⟨G, 0, none⟩) 2 2] W (Tells2 W (putL 9 L0) 0) := fun W h => by
    have := dput_any 9 _ L0 W (rd W h) vols0; rw [p_9] at this; exact this
  have hps := put_size right9
  have c6 : ∀ W, Calls Try.prog 18 #[.string (putL 9 L0)] W (fun e w' => ∃ v, e = .returned (.tuple #[.int .i64 9, v, .int .i64 0]) ∧ OwnE volE w' W.heap.size 24 v L0 ∧ Below W.heap.size W w') := fun W => by
    have := dget_any (putL 9 L0) W (by omega)
    obtain ⟨g1, g2, g3⟩ := get_laid right9
    unfold GetsV at this
    rw [g2, g3, show outE (putL 9 L0) = 0 by rw [outE, g1]; rfl] at this
    exact this
  have c7 := fun W => isname_any ⟨#[118, 111, 108, 49]⟩ W (by decide)
  have c8 := fun W => isname_any ⟨#[49, 97]⟩ W (by decide)
  rw [n_vol1] at c7
  rw [n_1a] at c8
  have c9 : ∀ W, Below w1.heap.size w1 W → Calls Try.prog 24 #[.slice (some ⟨G, 0, none⟩) 2 2, .string ⟨#[99]⟩] W (Tells W (.int .i64 1)) := fun W h => by
    have := find_any _ L0 ⟨#[99]⟩ W (rd W h) (by decide); rw [fi_c] at this; exact this
  have cS : ∀ (o : Value) (W : World), ReadsE volE W o L0 → Below w1.heap.size w1 W → Calls Try.prog 20 #[o, .slice (some ⟨G, 0, none⟩) 2 2] W (Tells W (.bool true)) := fun o W ho h => by
    have := same_any o _ L0 L0 W ho (rd W h) (by decide); rw [decide_eq_true rfl] at this; exact this
  have hlen := a_b.2
  generalize addL L0 vB = LB at *
  generalize addL L0 vA0 = LA at *
  generalize addL L0 vX = LX at *
  generalize remL L0 ⟨#[100]⟩ = LR at *
  generalize putL 9 L0 = S at *
  clear rd
  go_enter Try.func8, Try.ntmps8
  go_wp2_with (fail)
  rw [← hw1]
  try rw [hG]
  clear hw1
  refine (c1 _ (Below.refl _ _)).mono ?_
  rintro e w2 ⟨o1, rfl, own1, b1⟩
  have B1 := b1
  have lenR := fun (ty : TypeId) (W : World) => own1.reads.len_run (P := Try.prog) Try.underlying22 ty W
  rw [hlen] at lenR
  clear own1
  go_wp2_with (fail)
  refine (c2 _ B1).mono ?_
  rintro e w3 ⟨o2, rfl, _, b2⟩
  have B2 := below_c B1 b2
  go_wp2_with (fail)
  refine (c3 _ B2).mono ?_
  rintro e w4 ⟨o3, rfl, _, b3⟩
  have B3 := below_c B2 b3
  go_wp2_with (fail)
  refine (c4 _ B3).mono ?_
  rintro e w5 ⟨o4, rfl, _, b4⟩
  have B4 := below_c B3 b4
  go_wp2_with (fail)
  refine (c5 _ B4).mono ?_
  rintro e w6 ⟨rfl, b5⟩
  have B5 := below_c B4 b5
  go_wp2_with (fail)
  refine (c6 _).mono ?_
  rintro e w7 ⟨o7, rfl, own7, b6⟩
  have B6 := below_c B5 b6
  have hs : ((S.size : Nat) : Int) = 120 := by omega
  clear c1 c2 c3 c4 c5 c6
  go_wp2_with (first | (go_at_call 21; first | (refine (c7 _).mono ?_; rintro e w' ⟨rfl, rfl⟩; clear c7) | (refine (c8 _).mono ?_; rintro e w' ⟨rfl, rfl⟩)))
  refine (cS _ _ own7.reads B6).mono ?_
  rintro e w8 ⟨rfl, b7⟩
  have B7 := below_c B6 b7
  go_wp2_with (fail)
  refine (c9 _ B7).mono ?_
  rintro e w9 ⟨rfl, b8⟩
  have B8 := below_c B7 b8
  go_wp2_with (fail)
  go_ret
  exact ⟨rfl, below_c hbox B8⟩

theorem VolAt.drewf {w : World} {b : Nat} {y : Vol} (h : VolAt w b y) {Z : Type} {f : Z → World} (hD : ∀ z, Below w.heap.size w (f z)) : ∀ z, (f z).cell? ⟨b, 0, none⟩ = some (.string y.n) := fun z => (h.below (hD z) h.lt).c0
set_option maxRecDepth 100000 in
set_option maxHeartbeats 16000000 in
theorem tells_walk (b : Int) (vl : Value) (l : List Vol) (y : Vol) (s : ByteArray) (w : World) (hR : ReadsE volE w vl l) (hs : VolsOk l) (hl : l.length ≤ 140737488351232) (hy : y.n.size ≤ 140737488351232) (hz : s.size ≤ 140737488351232)
    (hcap : ∀ a n c, vl = .slice a n c → n ≤ c ∧ c ≤ 9223372036854775807) : Calls Try.prog 3 #[.int .i64 b, vl, y.v, .string s] w (Tells w (.bool true)) := by
  have hbox : Below w.heap.size w (w.alloc (.cells #[.string y.n, .int .i64 y.s, .int .i64 y.r] 24)) := (Below.refl _ _).alloc (Nat.le_refl _) _
  have hva := VolAt.made w y 24
  have cA := fun W => dawake_any W
  have lenR := fun (ty : TypeId) (W : World) => hR.len_run (P := Try.prog) Try.underlying22 ty W
  have rl := fun W (hW : Below w.heap.size w W) => hR.below hW
  have hy' : y.n.size ≤ 140737488355328 := by omega
  have hz' : s.size ≤ 140737488355328 := by omega
  have hcapH := Lib.hid hcap
  clear hcap
  by_cases h30 : 30 < l.length
  · have cr := fun W hW => dright_any b vl l W (rl W hW) hs
    rw [show rightB b l = false by unfold rightB limB; rw [decide_eq_false (by omega)]; rfl] at cr
    have t1 : (30 : Int) < (l.length : Int) := by omega
    unfold Vol.v
    clear rl hR
    go_enter Try.func3, Try.ntmps3
    go_wp2_with (fail)
    refine (cA _).mono ?_
    rintro e w1 ⟨rfl, b1⟩
    have B1 := below_c hbox b1
    go_wp2_with (fail)
    refine (cr _ B1).mono ?_
    rintro e w2 ⟨rfl, b2⟩
    have B2 := below_c B1 b2
    go_wp2_with (fail)
    go_ret
    exact ⟨rfl, B2⟩
  have t1 : ¬ ((30 : Int) < (l.length : Int)) := by omega
  unfold Vol.v
  have cAdd := fun v W h => add_any v l y W h (by omega) hy'
  have cAddR := fun v W h => radd_any v l y W h (by omega) hy'
  have cChg := fun v W h => change_any v l y W h (by omega)
  have cChgR := fun v W h => rchange_any v l y W h (by omega)
  have cRem := fun v W h => remove_any v l y.n W h (by omega)
  have cRemR := fun W h => rremove_any vl l y.n W h (by omega) hcapH.out
  have cPut := fun v W h => dput_any b v l W h hs
  have cPutR := fun v W h => rput_any b v l W h hs
  have cGet := fun W => dget_any s W hz
  have cGetR := fun W => rget_any s W hz
  have cIs : ∀ (t : ByteArray) (ht : t.size ≤ 140737488355328) (W : World), Calls Try.prog 21 #[.string t] W (Tells W (.bool (nameB t))) := fun t ht W => (isname_any t W ht).mono fun _ _ h => ⟨h.1, h.2 ▸ Below.refl _ _⟩
  have cIsR : ∀ (t : ByteArray) (ht : t.size ≤ 140737488355328) (W : World), Calls Try.prog 22 #[.string t] W (Tells W (.bool (nameB t))) := fun t ht W => (risname_any t W ht).mono fun _ _ h => ⟨h.1, h.2 ▸ Below.refl _ _⟩
  have cRt := fun v W h => dright_any b v l W h hs
  have cRtR := fun v W h => rright_any b v l W h hs
  have cFi := fun v W h => find_any v l y.n W h (by omega)
  have cFiR : ∀ (v : Value) (W : World), ReadsE volE W v l → Calls Try.prog 25 #[v, .string y.n] W (Tells W (.int .i64 (findI l y.n))) := fun v W h => (rfind_any v l y.n W h (by omega)).mono fun _ _ h => ⟨h.1, h.2 ▸ Below.refl _ _⟩
  have cS : ∀ (m : List Vol) (v u : Value) (W : World), m.length ≤ 140737488351232 → ReadsE volE W v m → ReadsE volE W u m → Calls Try.prog 20 #[v, u] W (Tells W (.bool true)) := fun m v u W hm h1 h2 => by
    have := same_any v u m m W h1 h2 hm; rw [decide_eq_true rfl] at this; exact this
  have m1 : (addL l y).length ≤ 140737488351232 := by
    unfold addL; split
    · rw [ins_eq, ins_len]; omega
    · simp
  have m2 : (chgL l y).length ≤ 140737488351232 := by
    unfold chgL; split
    · rw [List.length_set]; omega
    · simp
  have m3 : (remL l y.n).length ≤ 140737488351232 := by
    unfold remL; split
    · have := List.length_eraseIdx_le l (findN l y.n); omega
    · simp
  have m4 : (outL s).length ≤ 140737488351232 := by
    unfold outL; split
    · rw [show (getV s (many s)).length = many s from rVs_len _ _]; have h256 : many s < 256 := rNum_lt (p1 s) 1; omega
    · simp
  have m5 : l.length ≤ 140737488351232 := hl
  unfold GetsV at cGet cGetR
  unfold Vol.v at cAdd cAddR cChg cChgR
  generalize addL l y = LA at *
  generalize addE l y = EA at *
  generalize chgL l y = LC at *
  generalize chgE l y = EC at *
  generalize remL l y.n = LD at *
  generalize remE l y.n = ED at *
  generalize putL b l = SP at *
  generalize putE b l = EP at *
  generalize outL s = LG at *
  generalize outN s = NG at *
  generalize outE s = EG at *
  have hRH := Lib.hid hR
  clear hR
  go_enter Try.func3, Try.ntmps3
  go_wp2_with (fail)
  refine (cA _).mono ?_
  rintro e w1 ⟨rfl, b1⟩
  have B1 := below_c hbox b1
  have V1 := hva.below b1 hva.lt
  clear hva b1 hbox cA
  obtain ⟨G, hG⟩ : ∃ G, w.heap.size = G := ⟨_, rfl⟩
  try rw [hG]
  rw [hG] at V1
  obtain ⟨o, w2, hap, own2, b2⟩ := (rl w1 B1).copyRun (by omega)
  have B2 := below_c B1 b2
  have V2 := V1.below b2 V1.lt
  have r2 := own2.reads
  have ro := fun W (hW : Below w2.heap.size w2 W) => r2.below hW
  have hV := fun W (hW : Below w2.heap.size w2 W) => V2.below hW V2.lt
  have hB := fun W (hW : Below w2.heap.size w2 W) => below_c B2 hW
  obtain ⟨k0, k1, k2, _⟩ := V2
  clear own2 b2 V1 B1
  go_wp2_with (at_builtin; refine wpList_append_run hap _ _ rfl rfl rfl rfl rfl ?_)
  clear hap
  refine (cAdd _ _ r2).mono ?_
  rintro e w3 ⟨a, rfl, oa, b3⟩
  have D3 := b3
  obtain ⟨k0, k1, k2, _⟩ := hV _ D3
  go_wp2_with (fail)
  refine (cAddR _ _ (rl _ (hB _ D3))).mono ?_
  rintro e w4 ⟨a', rfl, oa', b4⟩
  have D4 := below_c D3 b4
  have xa4 := oa.reads.below b4
  obtain ⟨k0, k1, k2, _⟩ := hV _ D4
  go_wp2_with (fail)
  refine (cChg _ _ (ro _ D4)).mono ?_
  rintro e w5 ⟨c, rfl, oc, b5⟩
  have D5 := below_c D4 b5
  have xa5 := xa4.below b5
  have ya5 := oa'.reads.below b5
  obtain ⟨k0, k1, k2, _⟩ := hV _ D5
  go_wp2_with (fail)
  refine (cChgR _ _ (rl _ (hB _ D5))).mono ?_
  rintro e w6 ⟨c', rfl, oc', b6⟩
  have D6 := below_c D5 b6
  have xa6 := xa5.below b6
  have ya6 := ya5.below b6
  have xc6 := oc.reads.below b6
  obtain ⟨k0, k1, k2, _⟩ := hV _ D6
  go_wp2_with (fail)
  refine (cRem _ _ (ro _ D6)).mono ?_
  rintro e w7 ⟨d, rfl, od, b7⟩
  have D7 := below_c D6 b7
  have xa7 := xa6.below b7
  have ya7 := ya6.below b7
  have xc7 := xc6.below b7
  have yc7 := oc'.reads.below b7
  obtain ⟨k0, k1, k2, _⟩ := hV _ D7
  go_wp2_with (fail)
  refine (cRemR _ (rl _ (hB _ D7))).mono ?_
  rintro e w8 ⟨d', rfl, od', b8⟩
  have D8 := below_c D7 b8
  have xa8 := xa7.below b8
  have ya8 := ya7.below b8
  have xc8 := xc7.below b8
  have yc8 := yc7.below b8
  have xd8 := od.reads.below b8
  have yd8 := od'.reads
  clear xa4 xa5 xa6 xa7 ya5 ya6 ya7 xc6 xc7 yc7 oa oa' oc oc' od od' b3 b4 b5 b6 b7 b8 D3 D4 D5 D6 D7 cAdd cAddR cChg cChgR cRem cRemR
  go_wp2_with (fail)
  refine (cPut _ _ (ro _ D8)).mono ?_
  rintro e w9 ⟨rfl, b9⟩
  have D9 := below_c D8 b9
  go_wp2_with (fail)
  refine (cPutR _ _ (rl _ (hB _ D9))).mono ?_
  rintro e w10 ⟨rfl, b10⟩
  have D10 := below_c D9 b10
  have b810 := below_c b9 b10
  go_wp2_with (fail)
  refine (cGet _).mono ?_
  rintro e w11 ⟨g, rfl, og, b11⟩
  have D11 := below_c D10 b11
  have b811 := below_c b810 b11
  go_wp2_with (fail)
  refine (cGetR _).mono ?_
  rintro e w12 ⟨g', rfl, og', b12⟩
  have D12 := below_c D11 b12
  have b812 := below_c b811 b12
  have xa := xa8.below b812
  have ya := ya8.below b812
  have xc := xc8.below b812
  have yc := yc8.below b812
  have xd := xd8.below b812
  have yd := yd8.below b812
  have xg := og.reads.below b12
  have yg := og'.reads
  clear xa8 ya8 xc8 yc8 xd8 yd8 og og' b9 b10 b11 b12 b810 b811 b812 cPut cPutR cGet cGetR D8 D9 D10 D11
  go_wp2_with (fail)
  refine (cS LA _ _ _ m1 xa ya).mono ?_
  rintro e w13 ⟨rfl, b13⟩
  go_wp2_with (fail)
  refine (cS LC _ _ _ m2 (xc.below b13) (yc.below b13)).mono ?_
  rintro e w14 ⟨rfl, b14⟩
  have b1214 := below_c b13 b14
  go_wp2_with (fail)
  refine (cS LD _ _ _ m3 (xd.below b1214) (yd.below b1214)).mono ?_
  rintro e w15 ⟨rfl, b15⟩
  have b1215 := below_c b1214 b15
  go_wp2_with (fail)
  refine (cS LG _ _ _ m4 (xg.below b1215) (yg.below b1215)).mono ?_
  rintro e w16 ⟨rfl, b16⟩
  have D16 := below_c (below_c D12 b1215) b16
  obtain ⟨k0, k1, k2, _⟩ := hV _ D16
  clear xa ya xc yc xd yd xg yg b13 b14 b1214 b15 b1215 b16 D12
  go_wp2_with (fail)
  refine wp_region_cls (Below w16.heap.size w16) (by kernel_rfl) (by kernel_rfl) (Below.refl _ _).drew ?_
  intro Z f hne hD hE
  have q0 := (hV _ D16).drewf hD
  have qo := fun z => ro (f z) (below_c D16 (hD z))
  have ql := fun z => rl (f z) (hB _ (below_c D16 (hD z)))
  clear k0 k1 k2
  try simp only [List.append]
  repeat (go_big_quiet_step (first
    | (go_at_call 21; exact toQB hD hE _ (cIs _ ‹_› _))
    | (go_at_call 22; exact toQB hD hE _ (cIsR _ ‹_› _))
    | (go_at_call 9; exact toQB hD hE _ (cRt _ _ (qo _)))
    | (go_at_call 23; exact toQB hD hE _ (cRtR _ _ (ql _)))
    | (go_at_call 24; exact toQB hD hE _ (cFi _ _ (qo _)))
    | (go_at_call 25; exact toQB hD hE _ (cFiR _ _ (ql _)))
    | (go_at_call 20; exact toQB hD hE _ (cS l _ _ _ m5 (qo _) (ql _)))))
  refine wpQuiet_nil ?_
  intro _ hw'
  obtain ⟨zq, hw''⟩ := hw'
  subst hw''
  have BF := hB _ (below_c D16 (hD zq))
  clear q0 qo ql
  go_wp2_with (fail)
  go_ret
  exact ⟨rfl, BF⟩
end Go.Proofs.Ytfmgoamgcjipkaa
