/- rs's laws: where all data are there they are told as they are. -/
import Derived.Test.YtcmnojflllcdfaaDoorRsLaw1
namespace Go.Proofs.YtcmnojflllcdfaaDoor
open Go.RowKit
set_option linter.unusedVariables false
set_option linter.unusedSimpArgs false

set_option maxRecDepth 100000 in
set_option maxHeartbeats 4000000 in
theorem first_walk (vraw : Value) (raw : List ByteArray) (k : Int) (m : Int) (vjunk : Value) (junk : List ByteArray) (w : World) (ht : Tabs w) (Rraw : Reads w vraw (tx raw)) (Fraw : Fits raw) (hk : -9223372036854775808 ≤ k ∧ k ≤ 9223372036854775807) (hm : -9223372036854775808 ≤ m ∧ m ≤ 9223372036854775807) (Rjunk : Reads w vjunk (tx junk)) (Fjunk : Fits junk)  :
    Calls Tryd.prog 12 #[vraw, .int .i64 k, .int .i64 m, vjunk] w (Says w (.bool true)) := by
  obtain ⟨p, hp, hpk⟩ := pick3_nat k 8 hk.1 hk.2 (by decide) (by decide)
  obtain ⟨q, hq, hpm⟩ := pick3_nat m 8 hm.1 hm.2 (by decide) (by decide)
  obtain ⟨K, hK⟩ : ∃ N : Nat, N = 1 + p := ⟨_, rfl⟩
  have hK1 : 1 + (p : Int) = (K : Int) := by omega
  obtain ⟨M, hM⟩ : ∃ N : Nat, N = 1 + q := ⟨_, rfl⟩
  have hM1 : 1 + (q : Int) = (M : Int) := by omega
  have k1 : 1 ≤ K := by omega
  have k2 : K ≤ 8 := by omega
  have m1 : 1 ≤ M := by omega
  have m2 : M ≤ 8 := by omega
  clear hK hM
  obtain ⟨S, hS⟩ : ∃ S : Nat, S = K + M := ⟨_, rfl⟩
  have hS1 : (K : Int) + (M : Int) = (S : Int) := by omega
  have s1 : S ≤ 16 := by omega
  have hS' := Lib.hid hS
  clear hS
  have cD := fun W v hv => data_any v raw K 9 W hv Fraw (by omega) (by omega)
  have cJ := fun W v hv => data_any v junk M 9 W hv Fjunk (by omega) (by omega)
  have rD := dataL_rect raw K 9
  have rJ := dataL_rect junk M 9
  generalize dataL raw K 9 = data at *
  generalize dataL junk M 9 = par at *
  have fD := rD.fits (by omega) (by omega)
  have hF := decode_first rD rJ k1 k2 m1 m2 (by decide) (by decide)
  have fA := (rect_app rD rJ).fits (by omega) (by omega)
  have hlA : (data ++ par).length ≤ 100 := by rw [List.length_append, rD.l, rJ.l]; omega
  have cE := fun W hW va vh hA hh => decode_any (M : Int) va vh (data ++ par) (List.replicate (K + M) true) W hW hA hh fA (by omega) (by simp; omega)
  rw [hF.1, hF.2, ← hS'.out, ← hvTo_all] at cE
  have cS := fun W va vb ha hb => same_any va vb data data W ha hb fD fD
  rw [sameL_self] at cS
  have hld : data.length + par.length ≤ 100 := by rw [rD.l, rJ.l]; omega
  have hld' := Lib.hid hld
  clear hF fA rD rJ hlA hld
  go_enter Tryd.func12, Tryd.ntmps12
  go_wp2_with (fail)
  refine (rsawake_any _ ht).mono ?_
  rintro e w1 ⟨rfl, b1⟩
  have t1 := ht.below b1 ht.two
  go_wp2_with (fail)
  refine (hpk _).mono ?_
  rintro e wq ⟨rfl, rfl⟩
  go_wp2_with (fail)
  refine (hpm _).mono ?_
  rintro e wq ⟨rfl, rfl⟩
  go_wp2_with (fail)
  have q0 := Rraw.below b1
  have j0 := Rjunk.below b1
  refine (cD _ _ q0).mono ?_
  rintro e w2 ⟨v2, rfl, o2, b2⟩
  have t2 := t1.below b2 t1.two
  have r2_d := o2.reads
  have j1 := j0.below b2
  obtain ⟨u1, w3, ha1, p1, c3⟩ := copy_tx o2.reads (by have := hld'.out; omega)
  go_wp2_with (at_builtin; refine wpList_append_run ha1 _ _ rfl rfl rfl rfl rfl ?_)
  have j2 := j1.below c3
  refine (cJ _ _ j2).mono ?_
  rintro e w4 ⟨v4, rfl, o4, b4⟩
  have p2 := p1.after b4
  obtain ⟨u2, w5, ha2, p3, c5⟩ := push_tx p2 o4.reads (Nat.le_trans c3.size b4.size) (by have := hld'.out; omega)
  obtain ⟨w6, hmk, p6, c6⟩ := have_run w5 S (by omega)
  have B25 : Below w2.heap.size w2 w5 := c3.trans ((b4.mono c3.size).trans c5)
  go_wp2_with (at_builtin; refine wpList_append_run ha2 _ _ rfl rfl rfl rfl rfl ?_)
  go_loopw [13] (fun i wr => ∃ q : Nat, q ≤ S ∧ i = .int .i64 (q : Int) ∧ Own wr w5.heap.size 4 (.slice (some ⟨w5.heap.size, 0, none⟩) S S) (bv (hvTo S q)) ∧ Below w5.heap.size w5 wr) (fun i _ => S - (intOf i).toNat)
  case atStart => exact ⟨0, by omega, rfl, by rw [hvTo_zero]; exact p6, c6⟩
  case round =>
    obtain ⟨q, hq, rfl, hown, hbel⟩ := hrel
    by_cases hlt : q < S
    · have b1 : (q : Int) < (S : Int) := by omega
      have hcq := hown.cell (i := q) (by rw [bv_length, hvTo_length hq]; exact hlt)
      have hfq := hown.frozen q
      have hgl := hown.lt
      have hnx := Lib.hid (hvTo_succ hlt)
      go_wp2_with (fail)
      go_roundw
      case rel => exact ⟨q + 1, by omega, by go_num, by rw [hnx.out]; exact hown.set q _, hbel.setCell (Nat.le_refl _) _⟩
      case measure => simp [intOf]; omega
    · have e : q = S := by omega
      subst e
      have B2r := B25.trans (hbel.mono B25.size)
      have tr := t2.below B2r t2.two
      have rd := o2.reads.below B2r
      have ra := p3.reads.below hbel
      go_wp2_with (fail)
      refine (cE _ tr _ _ ra hown.reads).mono ?_
      rintro e w7 ⟨v7, rfl, o7, b7⟩
      go_wp2_with (fail)
      refine (cS _ _ _ o7.reads (rd.below b7)).mono ?_
      rintro e w8 ⟨rfl, b8⟩
      go_wp2_with (fail)
      go_ret
      exact ⟨rfl, below_c (below_c (below_c (below_c b1 b2) B2r) b7) b8⟩
end Go.Proofs.YtcmnojflllcdfaaDoor
