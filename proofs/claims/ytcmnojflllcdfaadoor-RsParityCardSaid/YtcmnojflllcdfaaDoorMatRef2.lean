/- mat: the document's own product and inverse. -/
import Derived.Test.YtcmnojflllcdfaaDoorMatRef
import Derived.StillTailTactics
namespace Go.Proofs.YtcmnojflllcdfaaDoor
open Go.RowKit
set_option linter.unusedVariables false
set_option linter.unusedSimpArgs false

theorem drew_c {w w' : World} (h : Below w.drew.heap.size w.drew w') : Below w.heap.size w w' := ⟨h.os, h.tape, h.output, h.size, h.block⟩
def rowV (f : ByteArray) (b : List ByteArray) (q : Nat) : ByteArray := if q = 0 then ⟨#[]⟩ else comb f b q
set_option maxRecDepth 100000 in
set_option maxHeartbeats 4000000 in
theorem rmxmul_any (va vb : Value) (a b : List ByteArray) (w : World) (hA : Reads w va (tx a)) (hB : Reads w vb (tx b)) (fa : Fits a) (fb : Fits b) :
    Calls Tryd.prog 30 #[va, vb] w (GivesL w (mulL a b) (mulE a b)) := by
  have ra := fun W (hW : Below w.heap.size w W) => rright_any va a W (hA.below hW) fa
  have rb := fun W (hW : Below w.heap.size w W) => rright_any vb b W (hB.below hW) fb
  cases h1 : mR a with
  | false =>
    have hz : Hid (mulOk a b = false) := Lib.hid (by simp [mulOk, h1])
    rw [h1] at ra
    obtain ⟨x, hx⟩ : ∃ x, mR b = x := ⟨_, rfl⟩
    rw [hx] at rb
    clear h1 hx
    go_enter Tryd.func30, Tryd.ntmps30
    go_wp2_with (fail)
    refine (ra _ (Below.refl _ _)).mono ?_
    rintro e w1 ⟨rfl, b1⟩
    go_wp2_with (fail)
    refine (rb _ b1).mono ?_
    rintro e w2 ⟨rfl, b2⟩
    cases x
    all_goals
      go_wp2_with (fail)
      go_ret2
      exact mul_bad w a b hz _ (below_c b1 b2)
  | true =>
    cases h2 : mR b with
    | false =>
      have hz : Hid (mulOk a b = false) := Lib.hid (by simp [mulOk, h2])
      rw [h1] at ra
      rw [h2] at rb
      clear h1 h2
      go_enter Tryd.func30, Tryd.ntmps30
      go_wp2_with (fail)
      refine (ra _ (Below.refl _ _)).mono ?_
      rintro e w1 ⟨rfl, b1⟩
      go_wp2_with (fail)
      refine (rb _ b1).mono ?_
      rintro e w2 ⟨rfl, b2⟩
      go_wp2_with (fail)
      go_ret2
      exact mul_bad w a b hz _ (below_c b1 b2)
    | true =>
      obtain ⟨ka1, ka2, ka3, ka4, ka5⟩ := mR_facts h1
      obtain ⟨kb1, kb2, kb3, kb4, kb5⟩ := mR_facts h2
      rw [h1] at ra
      rw [h2] at rb
      rcases hA.srow with ⟨_, rfl⟩ | ⟨ba, oa, ca, rfl, hSa⟩
      · simp at ka1
      rcases hB.srow with ⟨_, rfl⟩ | ⟨bb, ob, cb, rfl, hSb⟩
      · simp at kb1
      have hc0 := fun W (hW : Below w.heap.size w W) => (hSa.below hW).cell 0 (by omega)
      rw [Nat.add_zero] at hc0
      by_cases h3 : (a.getD 0 ⟨#[]⟩).size = b.length
      · have hz : Hid (mulOk a b = true) := Lib.hid (by simp [mulOk, h1, h2]; simpa using h3)
        have h3' := Lib.hid h3
        have t3 : ((((a.getD 0 ⟨#[]⟩).size : Nat) : Int) != ((b.length : Nat) : Int)) = false := by rw [h3]; exact bne_self_eq_false _
        obtain ⟨s0, hs0⟩ : ∃ r, a.getD 0 ⟨#[]⟩ = r := ⟨_, rfl⟩
        have hs0' := Lib.hid hs0
        rw [hs0] at hc0 t3
        clear h1 h2 h3 hs0
        have ka5' := Lib.hid ka5
        have kb5' := Lib.hid kb5
        clear ka5 kb5
        obtain ⟨i0, hi, hz0, hz1, hz2⟩ := info_parts Tryd.infoS
        obtain ⟨i1, hi1, hy0, hy1, hy2⟩ := info_parts Tryd.info5
        go_enter Tryd.func30, Tryd.ntmps30
        go_wp2_with (fail)
        refine (ra _ (Below.refl _ _)).mono ?_
        rintro e w1 ⟨rfl, b1⟩
        go_wp2_with (fail)
        refine (rb _ b1).mono ?_
        rintro e w2 ⟨rfl, b2⟩
        have bw2 := below_c b1 b2
        have hc0' := hc0 _ bw2
        clear hc0
        go_wp2_with (fail)
        go_loopw [8, 9, 10, 11] (fun u i _ _ wr => ∃ k : Nat, k ≤ a.length ∧ i = .int .i64 (k : Int) ∧ Own wr w2.heap.size 9 u (tx (firstL (fun i => comb (a.getD i ⟨#[]⟩) b b.length) k)) ∧ Below w2.heap.size w2 wr) (fun _ i _ _ _ => a.length - (intOf i).toNat)
        case atStart => exact ⟨0, by omega, rfl, Own.nil _ _ _, Below.refl _ _⟩
        case round =>
          obtain ⟨k, hk, rfl, hown, hbel⟩ := hrel
          obtain ⟨u, rfl⟩ : ∃ v, v = u8 := ⟨_, rfl⟩
          by_cases hlt : k < a.length
          · have e1 : (k : Int) < (a.length : Int) := by omega
            have hnx := Lib.hid (firstL_succ (fun i => comb (a.getD i ⟨#[]⟩) b b.length) k)
            have hfl := firstL_length (fun i => comb (a.getD i ⟨#[]⟩) b b.length) k
            have cfa := fun W (hW : Below w2.heap.size w2 W) => (hSa.below (below_c bw2 hW)).cell k hlt
            have hfs : b.length ≤ (a.getD k ⟨#[]⟩).size := by rw [ka5'.out k hlt, h3'.out]; exact Nat.le_refl _
            have hfs2 : (a.getD k ⟨#[]⟩).size ≤ 16 := by rw [ka5'.out k hlt, h3'.out]; exact kb2
            generalize a.getD k ⟨#[]⟩ = f at *
            obtain ⟨wo, rfl⟩ : ∃ wo : World, wo = wr := ⟨_, rfl⟩
            go_wp2_with (fail)
            go_loopw [10, 11] (fun r j wr => ∃ q : Nat, q ≤ b.length ∧ j = .int .i64 (q : Int) ∧ r = .string (rowV f b q) ∧ Below wo.heap.size wo wr) (fun _ j _ => b.length - (intOf j).toNat)
            case atStart => exact ⟨0, by omega, rfl, rfl, Below.refl _ _⟩
            case round =>
              obtain ⟨q, hq, rfl, rfl, hbq⟩ := hrel
              have hb2 : Below w2.heap.size w2 wr := hbel.trans (hbq.mono hbel.size)
              by_cases hlq : q < b.length
              · have d1 : (q : Int) < (b.length : Int) := by omega
                have d2 : (q : Int) < (f.size : Int) := by omega
                have hqf : q < f.size := by omega
                have cb := fun W (hW : Below w2.heap.size w2 W) => (hSb.below (below_c bw2 hW)).cell q hlq
                have cf := cfa wr hb2
                have cbr := cb wr hb2
                have cb0 := (hSb.below (below_c bw2 hb2)).cell 0 (by omega)
                rw [Nat.add_zero] at cb0
                have hbs := kb5'.out q hlq
                have hC : comb f b (q + 1) = mulAdd (comb f b q) (bt f q) (b.getD q ⟨#[]⟩) := rfl
                have hV : rowV f b (q + 1) = comb f b (q + 1) := if_neg (by omega)
                have hV' := Lib.hid (hV.trans hC)
                have hcs := comb_size f b q
                have hma := fun W => rmuladd_nat (comb f b q) (b.getD q ⟨#[]⟩) (bt f q) W (bt_lt _ _) (by rw [hcs]; omega) (by rw [hbs]; omega)
                have hbtf : ((bt f q : Nat) : Int) = ((f[q].toNat : Nat) : Int) := by rw [bt_get hqf]
                rw [hbtf] at hma
                by_cases h0 : q = 0
                · subst h0
                  have hr0 : rowV f b 0 = ⟨#[]⟩ := rfl
                  have hcz : comb f b 0 = zrow (b.getD 0 ⟨#[]⟩).size := rfl
                  rw [hcz] at hma hV'
                  rw [hr0]
                  clear hcz hcs hC hV hbtf cbr hbs hr0 cb
                  generalize b.getD 0 ⟨#[]⟩ = b0 at *
                  obtain ⟨w3, hmk3, o3, b3⟩ := Own.make_run (P := Tryd.prog) (T := 41) Tryd.underlying41 hi1 hy0 hy1 hy2 rfl wr b0.size (by omega) (by omega)
                  have hst := own_back (w := w3) (B := wr.heap.size) (n := (List.replicate b0.size (Value.int .u8 0)).length) (v := .slice (some ⟨wr.heap.size, 0, none⟩) b0.size b0.size) (l := List.replicate b0.size 0) (by rw [show (List.replicate b0.size (0 : UInt8)).map byteVal = List.replicate b0.size (.int .u8 0) by simp [byteVal]]; exact o3.o)
                  rw [show lineOf (List.replicate b0.size 0) = zrow b0.size from rfl] at hst
                  have cf3 := cfa w3 (below_c hb2 b3)
                  have cb3 := (hSb.below (below_c bw2 (below_c hb2 b3))).cell 0 (by omega)
                  rw [Nat.add_zero] at cb3
                  have cb3' : w3.cell? ⟨bb, ob, none⟩ = some (.string b0) := by
                    rw [b3.cell (p := ⟨bb, ob, none⟩) (Nat.lt_of_lt_of_le hSb.lt (below_c bw2 hb2).size)]; exact cb0
                  clear cfa cb3
                  go_wp2_with (fail)
                  go_still_tail 11, (by kernel_rfl)
                  go_wp2_with (fail)
                  refine (hma _).mono ?_
                  rintro e w4 ⟨rfl, b4⟩
                  go_wp2_with (fail)
                  go_roundw
                  case rel => exact ⟨0 + 1, by omega, rfl, by rw [hV'.out], below_c (below_c hbq b3) (drew_c b4)⟩
                  case measure => simp [intOf]; omega
                · have e0 : ((q : Int) == 0) = false := by rw [beq_eq_false_iff_ne]; omega
                  have hr0 : rowV f b q = comb f b q := if_neg h0
                  rw [hr0]
                  clear hcs hC hV hbtf hr0 hbs cfa cb h0 cb0
                  generalize comb f b q = row at *
                  generalize b.getD q ⟨#[]⟩ = bq at *
                  go_wp2_with (fail)
                  go_still_tail 11, (by kernel_rfl)
                  go_wp2_with (fail)
                  refine (hma _).mono ?_
                  rintro e w4 ⟨rfl, b4⟩
                  go_wp2_with (fail)
                  go_roundw
                  case rel => exact ⟨q + 1, by omega, by go_num, by rw [hV'.out], below_c hbq (drew_c b4)⟩
                  case measure => simp [intOf]; omega
              · have e : q = b.length := by omega
                have hr0 : rowV f b q = comb f b q := if_neg (by omega)
                subst e
                rw [hr0]
                have hown3 := hown.after hbq
                obtain ⟨v', w', hap, hown4, hb4⟩ := Own.push (P := Tryd.prog) (T := 22) Tryd.underlying22 hi hz0 hz1 hz2 rfl hown3 (.string (comb f b b.length)) rfl hb2.size (by rw [List.length_map, hfl]; omega) (by rw [List.length_map, hfl]; omega)
                clear cfa hr0
                go_wp2_with (at_builtin; refine wpList_append_run hap _ _ rfl rfl rfl rfl rfl ?_)
                go_roundw
                case rel => exact ⟨k + 1, by omega, by go_num, by rw [hnx.out]; exact hown4, hb2.trans hb4⟩
                case measure => simp [intOf]; omega
          · have e : k = a.length := by omega
            subst e
            go_wp2
            go_ret2
            refine ⟨u, by rw [mulE, if_pos hz.out]; rfl, ?_, below_c bw2 hbel⟩
            rw [mulL, if_pos hz.out, show a.map (fun f => comb f b b.length) = firstL (fun i => comb (a.getD i ⟨#[]⟩) b b.length) a.length by
              apply List.ext_getElem
              · rw [firstL_length, List.length_map]
              · intro i h1 h2
                rw [List.length_map] at h1
                simp [firstL, List.getD_eq_getElem?_getD, h1]]
            exact hown.mono bw2.size
      · have hz : Hid (mulOk a b = false) := Lib.hid (by simp [mulOk, h1, h2]; simpa using h3)
        have t3 : ((((a.getD 0 ⟨#[]⟩).size : Nat) : Int) != ((b.length : Nat) : Int)) = true := by rw [bne_iff_ne]; omega
        obtain ⟨s0, hs0⟩ : ∃ r, a.getD 0 ⟨#[]⟩ = r := ⟨_, rfl⟩
        rw [hs0] at hc0 t3
        clear h1 h2 h3 hs0 ka5 kb5
        go_enter Tryd.func30, Tryd.ntmps30
        go_wp2_with (fail)
        refine (ra _ (Below.refl _ _)).mono ?_
        rintro e w1 ⟨rfl, b1⟩
        go_wp2_with (fail)
        refine (rb _ b1).mono ?_
        rintro e w2 ⟨rfl, b2⟩
        have bw2 := below_c b1 b2
        have hc0' := hc0 _ bw2
        clear hc0
        go_wp2_with (fail)
        go_ret2
        exact mul_bad w a b hz _ bw2
end Go.Proofs.YtcmnojflllcdfaaDoor
