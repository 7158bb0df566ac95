/- dir's laws: Get undoes Put. -/
import Derived.Test.YtfmgoamgcjipkaaDirMath2
import Derived.Test.YtfmgoamgcjipkaaDirFit2
import Derived.Test.YtfmgoamgcjipkaaIntRng
namespace Go.Proofs.Ytfmgoamgcjipkaa
open Go.RowKit
set_option linter.unusedVariables false
set_option linter.unusedSimpArgs false
open Dr

theorem put_eq {l m : List Vol} (hl : rightB 200 l = true) (hm : rightB 200 m = true) : ((putL 200 l).toList == (putL 200 m).toList) = decide (l = m) := by
  rw [toL_eq, Bool.eq_iff_iff, decide_eq_true_eq, decide_eq_true_eq]; exact put_inj hl hm
theorem right_any (b : Int) (v : Value) (l : List Vol) (w : World) (hR : ReadsE volE w v l) (h : rightB b l = true) (hs : VolsOk l) : Calls Try.prog 9 #[.int .i64 b, v] w (Tells w (.bool true)) := by
  have := dright_any b v l w hR hs; rwa [h] at this
theorem put_right (v : Value) (l : List Vol) (w : World) (hR : ReadsE volE w v l) (h : rightB 200 l = true) : Calls Try.prog 16 #[.int .i64 200, v] w (Tells2 w (putL 200 l) 0) := by
  have := dput_any 200 v l w hR (right_vols h); rwa [show putE 200 l = 0 by rw [putE, h]; rfl] at this
theorem get_right (l : List Vol) (w : World) (h : rightB 200 l = true) : Calls Try.prog 18 #[.string (putL 200 l)] w (fun e w' => ∃ v, e = .returned (.tuple #[.int .i64 200, v, .int .i64 0]) ∧ OwnE volE w' w.heap.size 24 v l ∧ Below w.heap.size w w') := by
  have hps := put_size h
  have := dget_any (putL 200 l) w (by omega)
  obtain ⟨g1, g2, g3⟩ := get_laid h
  unfold GetsV at this
  rw [g2, g3, show outE (putL 200 l) = 0 by rw [outE, g1]; rfl] at this
  exact this
set_option maxRecDepth 100000 in
set_option maxHeartbeats 8000000 in
theorem dback_walk (v1 : Value) (l1 : List Vol) (v2 : Value) (n1 : List Int) (v3 : Value) (l2 : List Vol) (v4 : Value) (n2 : List Int) (w : World) (R1 : ReadsE volE w v1 l1) (R2 : Reads w v2 (n1.map (.int .i64))) (R3 : ReadsE volE w v3 l2) (R4 : Reads w v4 (n2.map (.int .i64)))
    (I1 : ∀ x ∈ l1, In64 x.s ∧ In64 x.r) (I2 : ∀ i, i < n1.length → -9223372036854775808 ≤ n1.getD i 0 ∧ n1.getD i 0 ≤ 9223372036854775807) (I3 : ∀ x ∈ l2, In64 x.s ∧ In64 x.r) (I4 : ∀ i, i < n2.length → -9223372036854775808 ≤ n2.getD i 0 ∧ n2.getD i 0 ≤ 9223372036854775807)
    (s1 : l1.length ≤ 140737488351232) (s2 : n1.length ≤ 140737488351232) (s3 : l2.length ≤ 140737488351232) (s4 : n2.length ≤ 140737488351232) : Calls Try.prog 4 #[v1, v2, v3, v4] w (Tells w (.bool true)) := by
  have c1 := fun W (hW : Below w.heap.size w W) => fit_any v1 l1 v2 n1 W (R1.below hW) I1 (R2.below hW) I2 s1 s2
  have c2 := fun W (hW : Below w.heap.size w W) => fit_any v3 l2 v4 n2 W (R3.below hW) I3 (R4.below hW) I4 s3 s4
  clear R1 R2 R3 R4 I1 I2 I3 I4
  go_enter Try.func4, Try.ntmps4
  go_wp2_with (fail)
  refine (dawake_any _).mono ?_
  rintro e w1 ⟨rfl, B1⟩
  go_wp2_with (fail)
  refine (c1 _ B1).mono ?_
  rintro e w2 ⟨a, va, rfl, oa, b2, ha⟩
  have B2 := below_c B1 b2
  go_wp2_with (fail)
  refine (c2 _ B2).mono ?_
  rintro e w3 ⟨b, vb, rfl, ob, b3, hb⟩
  have B3 := below_c B2 b3
  have ra := oa.reads.below b3
  have rb := ob.reads
  clear c1 c2 oa ob b2 b3 B1 B2
  have hps := put_size ha
  have hps' : ((putL 200 a).size : Int) = 120 := by omega
  have cP1 := fun W h => put_right va a W h ha
  have cP2 := fun W h => put_right vb b W h hb
  have cG := fun W => get_right a W ha
  have he := put_eq ha hb
  have cRt := fun v W h => right_any 200 v a W h ha (right_vols ha)
  have la := (right_parts ha).1
  have cS1 : ∀ v u W, ReadsE volE W v a → ReadsE volE W u a → Calls Try.prog 20 #[v, u] W (Tells W (.bool true)) := fun v u W h1 h2 => by
    have := same_any v u a a W h1 h2 (by omega); rw [decide_eq_true rfl] at this; exact this
  have cS2 := fun v u W h1 h2 => same_any v u a b W h1 h2 (by omega)
  generalize decide (a = b) = d at *
  have hps2 : ((putL 200 a).size == 120) = true := by rw [beq_iff_eq]; omega
  generalize putL 200 a = S at *
  generalize putL 200 b = S' at *
  clear ha hb hps la
  go_wp2_with (fail)
  refine (cP1 _ ra).mono ?_
  rintro e w4 ⟨rfl, b4⟩
  go_wp2_with (fail)
  refine (cP2 _ (rb.below b4)).mono ?_
  rintro e w5 ⟨rfl, b5⟩
  have b35 := below_c b4 b5
  go_wp2_with (fail)
  refine (cG _).mono ?_
  rintro e w6 ⟨g, rfl, og, b6⟩
  have b36 := below_c b35 b6
  go_wp2_with (fail)
  refine (cRt _ _ (ra.below b36)).mono ?_
  rintro e w7 ⟨rfl, b7⟩
  have b37 := below_c b36 b7
  go_wp2_with (fail)
  refine (cS1 _ _ _ (og.reads.below b7) (ra.below b37)).mono ?_
  rintro e w8 ⟨rfl, b8⟩
  have b38 := below_c b37 b8
  go_wp2_with (fail)
  refine (cS2 _ _ _ (ra.below b38) (rb.below b38)).mono ?_
  rintro e w9 ⟨rfl, b9⟩
  have b39 := below_c b38 b9
  have BF := below_c B3 b39
  clear cP1 cP2 cG cRt cS1 cS2 og ra rb b4 b5 b35 b6 b36 b7 b37 b8 b38 b9
  cases d with
  | true =>
    go_wp2_with (fail)
    go_ret
    exact ⟨rfl, BF⟩
  | false =>
    go_wp2_with (fail)
    go_ret
    exact ⟨rfl, BF⟩
end Go.Proofs.Ytfmgoamgcjipkaa
