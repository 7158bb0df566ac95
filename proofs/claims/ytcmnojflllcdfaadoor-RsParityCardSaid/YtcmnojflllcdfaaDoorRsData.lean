/- rs: raw texts as shards; the chapter's examples. -/
import Derived.Test.YtcmnojflllcdfaaDoorRsUpd
namespace Go.Proofs.YtcmnojflllcdfaaDoor
open Go.RowKit
set_option linter.unusedVariables false
set_option linter.unusedSimpArgs false

def fillB (s : ByteArray) (n : Nat) : ByteArray := lineOf (s.data.toList.take n ++ (List.replicate n (0 : UInt8)).drop s.size)
def rowD (raw : List ByteArray) (n i : Nat) : ByteArray := if i < raw.length then fillB (raw.getD i ⟨#[]⟩) n else lineOf (List.replicate n 0)
def dataL (raw : List ByteArray) (k n : Nat) : List ByteArray := firstL (rowD raw n) k
theorem fillB_size (s : ByteArray) (n : Nat) : (fillB s n).size = n := by
  rw [fillB, lineOf_size]; simp; omega
theorem rowD_size (raw : List ByteArray) (n i : Nat) : (rowD raw n i).size = n := by
  rw [rowD]; split
  · exact fillB_size _ _
  · rw [lineOf_size]; simp
theorem dataL_rect (raw : List ByteArray) (k n : Nat) : Rect (dataL raw k n) k n := firstL_rect fun i _ => rowD_size raw n i
set_option maxRecDepth 100000 in
set_option maxHeartbeats 2000000 in
theorem data_any (v : Value) (raw : List ByteArray) (k n : Nat) (w : World) (hR : Reads w v (tx raw)) (hF : Fits raw) (hk : k ≤ 100) (hn : n ≤ 1000) :
    Calls Tryd.prog 22 #[v, .int .i64 (k : Int), .int .i64 (n : Int)] w (GivesT w (dataL raw k n)) := by
  obtain ⟨i0, hi, hz0, hz1, hz2⟩ := info_parts Tryd.infoS
  have hrn := hF.n
  have hlr := fun W => hR.len_run (P := Tryd.prog) Tryd.underlying22 3 W
  rw [List.length_map] at hlr
  go_enter Tryd.func22, Tryd.ntmps22
  go_wp2_with (fail)
  go_loopw [7, 8, 9] (fun u i _ wr => ∃ q : Nat, q ≤ k ∧ i = .int .i64 (q : Int) ∧ Own wr w.heap.size 9 u (tx (firstL (rowD raw n) q)) ∧ Below w.heap.size w wr) (fun _ i _ _ => k - (intOf i).toNat)
  case atStart => exact ⟨0, by omega, rfl, Own.nil _ _ _, Below.refl _ _⟩
  case round =>
    obtain ⟨q, hq, rfl, hown, hbel⟩ := hrel
    obtain ⟨u, rfl⟩ : ∃ v, v = u7 := ⟨_, rfl⟩
    by_cases hlt : q < k
    · have b1 : (q : Int) < (k : Int) := by omega
      have hnx := Lib.hid (firstL_succ (rowD raw n) q)
      have hfl := firstL_length (rowD raw n) q
      obtain ⟨w1, hmk, hB1, hb1, hs1⟩ := BRow.make_run wr n (by omega)
      by_cases hqr : q < raw.length
      · have b2' : (q : Int) < (raw.length : Int) := by omega
        rcases (hR.below hbel).srow with ⟨_, e⟩ | ⟨b, off, cap, rfl, hS⟩
        · rw [e] at hqr; simp at hqr
        have hcq := (hS.below hb1).cell q hqr
        have hrow : Hid (rowD raw n q = fillB (raw.getD q ⟨#[]⟩) n) := Lib.hid (if_pos hqr)
        have hsq := hF.m q hqr
        generalize raw.getD q ⟨#[]⟩ = s at *
        obtain ⟨w2, hcp, hB2, hb2, _⟩ := hB1.copy_run s 3 n
        rw [List.length_replicate] at hcp hB2
        have hst := hB2.str n n (by simp; omega)
        rw [show lineOf (s.data.toList.take n ++ (List.replicate n (0 : UInt8)).drop s.size) = fillB s n from rfl] at hst
        have hb2' := hb2 wr.heap.size (Nat.le_refl _)
        have hb12 : Below wr.heap.size wr w2 := hb1.trans hb2'
        have hown2 := hown.after hb12
        have hb3 : Below w.heap.size w w2 := hbel.trans (hb12.mono hbel.size)
        obtain ⟨v', w', hap, hown4, hb4⟩ := Own.push (P := Tryd.prog) (T := 22) Tryd.underlying22 hi hz0 hz1 hz2 rfl hown2 (.string (fillB s n)) rfl hb3.size (by rw [List.length_map, hfl]; omega) (by rw [List.length_map, hfl]; omega)
        clear hqr hs1 hB1 hB2
        go_wp2_with (at_builtin; refine wpList_append_run hap _ _ rfl rfl rfl rfl rfl ?_)
        go_roundw
        case rel => exact ⟨q + 1, by omega, by go_num, by rw [hnx.out, hrow.out]; exact hown4, hb3.trans hb4⟩
        case measure => simp [intOf]; omega
      · have b2 : decide (q < raw.length) = false := by rw [decide_eq_false_iff_not]; omega
        have hrow : Hid (rowD raw n q = lineOf (List.replicate n 0)) := Lib.hid (if_neg hqr)
        have hst := hB1.str n n (by simp)
        have hown2 := hown.after hb1
        have hb3 : Below w.heap.size w w1 := hbel.trans (hb1.mono hbel.size)
        obtain ⟨v', w', hap, hown4, hb4⟩ := Own.push (P := Tryd.prog) (T := 22) Tryd.underlying22 hi hz0 hz1 hz2 rfl hown2 (.string (lineOf (List.replicate n 0))) rfl hb3.size (by rw [List.length_map, hfl]; omega) (by rw [List.length_map, hfl]; omega)
        clear hqr hs1 hB1
        go_wp2_with (at_builtin; refine wpList_append_run hap _ _ rfl rfl rfl rfl rfl ?_)
        go_roundw
        case rel => exact ⟨q + 1, by omega, by go_num, by rw [hnx.out, hrow.out]; exact hown4, hb3.trans hb4⟩
        case measure => simp [intOf]; omega
    · have e : q = k := by omega
      subst e
      go_wp2_with (fail)
      go_ret
      exact ⟨u, rfl, hown, hbel⟩
def d12 : List ByteArray := [⟨#[1]⟩, ⟨#[2]⟩]
def z1 : List ByteArray := [⟨#[0]⟩]
def t2 : List ByteArray := [⟨#[2]⟩]
def s3 : List ByteArray := [⟨#[]⟩, ⟨#[2]⟩, ⟨#[0]⟩]
theorem exr_fits : Fits d12 ∧ Fits z1 ∧ Fits t2 ∧ Fits s3 := by
  refine ⟨Fits.small (by decide) ?_, Fits.small (by decide) ?_, Fits.small (by decide) ?_, Fits.small (by decide) ?_⟩ <;> decide
set_option maxRecDepth 100000 in
theorem exr_enc : encL d12 1 = z1 ∧ encE d12 1 = 0 := by decide +kernel
set_option maxRecDepth 100000 in
theorem exr_dec : decL 1 s3 [false, true, true] = d12 ∧ decE 1 s3 [false, true, true] = 0 := by decide +kernel
set_option maxRecDepth 100000 in
theorem exr_few : decE 1 s3 [false, false, true] = 31 := by decide +kernel
set_option maxRecDepth 100000 in
theorem exr_upd : updL 2 0 z1 ⟨#[1]⟩ ⟨#[3]⟩ = t2 ∧ updE 2 0 z1 ⟨#[1]⟩ ⟨#[3]⟩ = 0 := by decide +kernel
theorem bvlit (w : World) (l : List Bool) (E : TypeId) : Reads (w.alloc (.cells (bv l).toArray E)) (.slice (some ⟨w.heap.size, 0, none⟩) (bv l).length (bv l).length) (bv l) := by
  refine .inr ⟨w.heap.size, 0, _, rfl, by simp, fun i hi => ?_⟩
  rw [World.cell?_alloc_mark]
  simp [List.getD_eq_getElem?_getD, hi]
set_option maxRecDepth 100000 in
set_option maxHeartbeats 4000000 in
theorem rsawake_any (w : World) (ht : Tabs w) : Calls Tryd.prog 13 #[] w (Says w (.bool true)) := by
  obtain ⟨f1, f2, f3, f4⟩ := exr_fits
  have c1 := fun W hW v hv => encode_any v d12 1 W hW hv f1
  rw [exr_enc.1, exr_enc.2] at c1
  have c2 := fun W hW v u hv hu => decode_any 1 v u s3 [false, true, true] W hW hv hu f4 (by decide) (by decide)
  rw [exr_dec.1, exr_dec.2] at c2
  have c3 := fun W hW v u hv hu => decode_any 1 v u s3 [false, false, true] W hW hv hu f4 (by decide) (by decide)
  rw [exr_few] at c3
  have c4 := fun W hW v hv => update_any 2 0 v z1 ⟨#[1]⟩ ⟨#[3]⟩ W hW hv f2 (by decide) (by decide) (by decide) (by decide) (by decide) (by decide)
  rw [exr_upd.1, exr_upd.2] at c4
  have k1 := fun W va vb ha hb => same_any va vb z1 z1 W ha hb f2 f2
  have k2 := fun W va vb ha hb => same_any va vb d12 d12 W ha hb f1 f1
  have k3 := fun W va vb ha hb => same_any va vb t2 t2 W ha hb f3 f3
  rw [sameL_self] at k1 k2 k3
  have r1 := fun W => Reads.lit W 9 (tx d12) 2
  have r2 := fun W => Reads.lit W 9 (tx s3) 3
  have r3 := fun W => bvlit W [false, true, true] 4
  have r4 := fun W => bvlit W [false, false, true] 4
  have r5 := fun W => Reads.lit W 9 (tx z1) 1
  have r6 := fun W => Reads.lit W 9 (tx t2) 1
  have bA := fun W : World => fun o => (Below.refl W.heap.size W).alloc (Nat.le_refl _) o
  go_enter Tryd.func13, Tryd.ntmps13
  go_wp2_with (fail)
  refine (c1 _ (ht.alloc _) _ (r1 w)).mono ?_
  rintro e w1 ⟨v1, rfl, o1, b1⟩
  have b1' := (bA w _).trans (b1.mono (by simp))
  have t1 := ht.below b1' ht.two
  have h1 := o1.reads
  go_wp2_with (fail)
  have q3 := r3 (w1.alloc (.cells (tx s3).toArray 9))
  rw [show (w1.alloc (.cells (tx s3).toArray 9)).heap.size = w1.heap.size + 1 by simp] at q3
  refine (c2 _ ((t1.alloc _).alloc _) _ _ ((r2 w1).below (bA _ _)) q3).mono ?_
  rintro e w2 ⟨v2, rfl, o2, b2⟩
  have b2' := (bA w1 _).trans (((bA _ _).mono (by simp)).trans (b2.mono (by simp; omega)))
  have t2 := t1.below b2' t1.two
  have h1 := h1.below b2'
  have h2 := o2.reads
  go_wp2_with (fail)
  have q4 := r4 (w2.alloc (.cells (tx s3).toArray 9))
  rw [show (w2.alloc (.cells (tx s3).toArray 9)).heap.size = w2.heap.size + 1 by simp] at q4
  refine (c3 _ ((t2.alloc _).alloc _) _ _ ((r2 w2).below (bA _ _)) q4).mono ?_
  rintro e w3 ⟨v3, rfl, o3, b3⟩
  have b3' := (bA w2 _).trans (((bA _ _).mono (by simp)).trans (b3.mono (by simp; omega)))
  have t3 := t2.below b3' t2.two
  have h1 := h1.below b3'
  have h2 := h2.below b3'
  go_wp2_with (fail)
  refine (c4 _ t3 _ h1).mono ?_
  rintro e w4 ⟨v4, rfl, o4, b4⟩
  have h1 := h1.below b4
  have h2 := h2.below b4
  have h4 := o4.reads
  go_wp2_with (fail)
  refine (k1 _ _ _ (h1.below (bA _ _)) (r5 w4)).mono ?_
  rintro e w5 ⟨rfl, b5⟩
  have b5' := (bA w4 _).trans (b5.mono (by simp))
  go_wp2_with (fail)
  refine (k2 _ _ _ ((h2.below b5').below (bA _ _)) (r1 w5)).mono ?_
  rintro e w6 ⟨rfl, b6⟩
  have b6' := (bA w5 _).trans (b6.mono (by simp))
  go_wp2_with (fail)
  refine (k3 _ _ _ (((h4.below b5').below b6').below (bA _ _)) (r6 w6)).mono ?_
  rintro e w7 ⟨rfl, b7⟩
  have b7' := (bA w6 _).trans (b7.mono (by simp))
  go_wp2_with (fail)
  go_ret
  exact ⟨rfl, below_c (below_c (below_c (below_c (below_c (below_c b1' b2') b3') b4) b5') b6') b7'⟩
end Go.Proofs.YtcmnojflllcdfaaDoor
