/- journal: chapter 12's example, walked. -/
import Derived.Test.YtfadglcpapiklaaGreatDoorJrnLw
import Derived.Test.YtfadglcpapiklaaGreatDoorLrecc
namespace Go.Proofs.YtfadglcpapiklaaGreatDoor
open Go.RowKit
open Rc
set_option linter.unusedVariables false
set_option linter.unusedSimpArgs false
set_option maxRecDepth 100000

theorem rok_00 (n s : Nat) : ROk n (R00 s) 0 := ⟨⟨Int.le_refl _, Int.le_refl _⟩, ⟨Int.le_refl _, by show (0 : Int) ≤ _; omega⟩, fun i hi => Vn.none _ _ _⟩
theorem phs_ok {n : Nat} : ∀ (fs : List (Rk → Int → Rk × Int)) (R : Rk) (l : List Int) (c : Nat), (∀ f ∈ fs, ∀ R x c, ROk n R c → ROk n (f R x).1 (c + 64)) → ROk n R c → ROk n (phs fs R l).1 (c + 64 * l.length * fs.length)
  | [], R, l, c, _, h => h.le (by omega)
  | f :: fs, R, l, c, hf, h => by
    have h1 := ea_ok (b := 64) (hf f (List.mem_cons_self ..)) l R [] c h
    have hle : 64 * l.length + 64 * l.length * fs.length = 64 * l.length * (fs.length + 1) := by rw [Nat.mul_succ]; omega
    unfold phs
    split
    · have h2 := phs_ok fs _ (keepL l (ea f R [] l).2.1) _ (fun g hg => hf g (List.mem_cons_of_mem _ hg)) h1
      have hk := keep_len l (ea f R [] l).2.1
      have hm : 64 * (keepL l (ea f R [] l).2.1).length * fs.length ≤ 64 * l.length * fs.length := Nat.mul_le_mul_right _ (by omega)
      refine h2.le ?_
      rw [List.length_cons]; omega
    · refine h1.le ?_
      rw [List.length_cons]
      have : 0 ≤ 64 * l.length * fs.length := Nat.zero_le _
      omega
theorem put_ok {n : Nat} {R : Rk} {c : Nat} {id K M B q : Int} {ss : List St} {l : List Int} (h : ROk n R c) : ROk n (puM n R id K M B l q ss).1 (c + 256 * l.length) := by
  unfold puM
  split
  · split
    · next hr =>
      have hb := (lay_small hr).2.1
      have h1 := phs_ok (putS n id (gHead K M B q).toNat (layS q ss) (allT ss)) R l c (fun f hf => by
        obtain ⟨i, hi, rfl⟩ := List.mem_map.1 hf
        exact putF_ok hb i) h
      rw [show (putS n id (gHead K M B q).toNat (layS q ss) (allT ss)).length = 4 by simp [putS]] at h1
      have h2 := h1.le (show c + 64 * l.length * 4 ≤ c + 256 * l.length by omega)
      unfold puX
      split <;> exact h2
    · exact h.le (by omega)
  · exact h.le (by omega)
def l12 (u : Value) : List St := [⟨1, [blockS11 1, blockS11 2], u⟩]
theorem l12_right (u : Value) : rightB 2 1 8 1 (l12 u) = true := by
  unfold rightB ordB l12
  have h1 := blockS_size11 1
  have h2 := blockS_size11 2
  simp only [List.length_cons, List.length_nil, List.all_cons, List.all_nil, stB, txtB, h1, h2]
  rfl
theorem gm_aw : Gm 3 72 2 1 8 := ⟨by decide, rfl, by decide⟩
theorem aw12_ex (u : Value) : ∃ R1, puM 3 (R00 72) 7 2 1 8 (allL 3) 1 (l12 u) = (R1, [], 0) ∧ Up 3 72 R1 ∧ ROk 3 R1 768 ∧ R1.acts = 15 ∧ laM 3 R1 7 2 1 8 (allL 3) = (some (1, (l12 u).map pr), 0) ∧ puM 3 R1 7 2 1 8 [0, 0] 1 (l12 u) = (R1, [], 1) := by
  have hin : ∀ x ∈ allL 3, 0 ≤ x ∧ x < ((3 : Nat) : Int) := fun x hx => allL_mem.1 hx
  have hU0 : Up 3 72 (R00 72) := up_00 (by decide) (by decide)
  obtain ⟨R1, e1, p1⟩ := put_to (i := 7) (l := allL 3) gm_aw hU0 (l12_right u) (by decide) (by decide) hin allL_nodup
  have hd : deadL (R00 72) (allL 3) = [] := rfl
  rw [hd] at e1
  have hk := put_ok (id := 7) (K := 2) (M := 1) (B := 8) (q := 1) (ss := l12 u) (l := allL 3) (rok_00 3 72)
  rw [show puM 3 (R00 72) 7 2 1 8 (allL 3) 1 (l12 u) = (R1, [], 0) from e1] at hk
  refine ⟨R1, e1, p1.u, hk, ?_, ?_, ?_⟩
  · have := p1.acts (fun _ _ => rfl)
    rw [this]; rfl
  · have tl : ∀ j c : Nat, j < 3 → c < 2 → _ := fun j c hj hc => put_tell gm_aw hU0 (l12_right u) (i := 7) (by decide) (by decide) (zer_00 3 72) p1 hj hc
    rw [show laM 3 R1 7 2 1 8 (allL 3) = (bestM 3 R1 7 2 1 8 (allL 3), 0) from last_all (id := 0) (i := 7) gm_aw p1.u (by decide) (by decide) hin allL_nodup]
    refine congrArg (fun z => (z, (0 : Int))) (best_only (fun x hx c hc => ?_) ⟨0, by decide, 1, by decide, ?_⟩)
    · obtain ⟨h0, h3⟩ := hin x hx
      obtain ⟨j, rfl⟩ := Int.eq_ofNat_of_zero_le h0
      have := tl j c (by omega) hc
      rw [show bayM 3 R1 7 2 1 8 (j : Int) c = _ from this]
      split
      · exact .inr rfl
      · exact .inl rfl
    · have := tl 0 1 (by decide) (by decide)
      rw [show bayM 3 R1 7 2 1 8 0 1 = _ from this]
      exact if_pos ⟨⟨allL_mem.2 (by decide), rfl⟩, rfl⟩
  · unfold puM
    rw [if_neg]
    rintro ⟨_, h⟩
    rw [srightB_no (l := [0, 0]) (n := ((3 : Nat) : Int)) (i := 1) (by decide) (.inr (by decide))] at h
    cases h
theorem l12_reads (w : World) (a : Nat) (ha : Reads w (.slice (some ⟨a, 0, none⟩) 2 2) ([blockS11 1, blockS11 2].map .string)) :
    SReads (w.alloc (.cells #[.int .i64 1, .slice (some ⟨a, 0, none⟩) 2 2] 76)) (.slice (some ⟨w.heap.size, 0, none⟩) 1 1) (l12 (.slice (some ⟨a, 0, none⟩) 2 2)) := by
  have bb : Below w.heap.size w (w.alloc (.cells #[.int .i64 1, .slice (some ⟨a, 0, none⟩) 2 2] 76)) := (Below.refl _ _).alloc (Nat.le_refl _) _
  refine ⟨_, 1, rfl, fun i hi => ⟨w.heap.size, 0, rfl, ?_⟩⟩
  have hi2 : i < 1 := hi
  obtain rfl : i = 0 := by omega
  refine ⟨⟨by rw [World.cell?_alloc_mark]; rfl, by rw [World.cell?_alloc_mark]; rfl, by simp⟩, ⟨ha.below bb, by simp [l12], fun t ht => ?_⟩⟩
  have h2 : t ∈ [blockS11 1, blockS11 2] := ht
  simp only [List.mem_cons, List.not_mem_nil, or_false] at h2
  rcases h2 with rfl | rfl <;> rw [blockS_size11] <;> omega
theorem lsn_new {w : World} {S : Nat → Prop} {b : Nat} (hS : ∀ q, S q → q < b) (hb : b ≤ w.heap.size) (l : List Int) (n : Nat) (hn : l.length = n) : LsN (w.alloc (.cells (l.map (Value.int .i64)).toArray 3)) S (.slice (some ⟨w.heap.size, 0, none⟩) n n) l := by
  subst hn
  have hh := heap_alloc_new w (.cells (l.map (Value.int .i64)).toArray 3)
  refine ⟨.inr ⟨w.heap.size, 0, l.length, by rw [List.length_map], by simp, fun i hi => ?_⟩, fun _ q hq => ?_⟩
  · refine heap_cell hh ?_
    rw [List.getElem?_toArray, Nat.zero_add, List.getElem?_eq_getElem hi, List.getD_eq_getElem?_getD, List.getElem?_eq_getElem hi]
    rfl
  · obtain rfl : w.heap.size = q := by cases hq; rfl
    refine ⟨by simp, fun z => ?_⟩
    have := hS _ z
    omega
theorem pr_facts {l m : List St} (e : m.map pr = l.map pr) (hl : ∀ s ∈ l, s.d.length ≤ 140737488355328 ∧ ∀ t ∈ s.d, t.size ≤ 140737488355328) (q : Int) : sameB q m q l = true ∧ m.length = l.length ∧ ∀ s ∈ m, s.d.length ≤ 140737488355328 ∧ ∀ t ∈ s.d, t.size ≤ 140737488355328 := by
  refine ⟨?_, by have := congrArg List.length e; simpa using this, fun s hs => ?_⟩
  · unfold sameB
    have : m.map (fun s => (s.n, s.d)) = l.map (fun s => (s.n, s.d)) := e
    rw [decide_eq_true this]; simp
  · have h1 : pr s ∈ l.map pr := by rw [← e]; exact List.mem_map.2 ⟨s, hs, rfl⟩
    obtain ⟨s', hs', e⟩ := List.mem_map.1 h1
    have e2 : s'.d = s.d := congrArg Prod.snd e
    rw [← e2]; exact hl s' hs'
theorem last_some {w w0 : World} {args : Array Value} {q : Int} {p : List (Int × List ByteArray)} (c : Calls Tryz.prog 19 args w (LastTo w0 (some (q, p), 0))) : Calls Tryz.prog 19 args w fun e w' => ∃ v l, e = .returned (.tuple #[.agg #[.int .i64 q, v], .bool true, .int .i64 0]) ∧ SFam w' w0.heap.size v l ∧ l.map pr = p ∧ Below w0.heap.size w0 w' := c.mono fun e w' ⟨q', v, l, he, hf, hi, hb⟩ => by
  obtain ⟨rfl, hp⟩ : q' = q ∧ l.map pr = p := hi
  exact ⟨v, l, he, hf, hp, hb⟩
theorem last_none {w w0 : World} {args : Array Value} (c : Calls Tryz.prog 19 args w (LastTo w0 (none, 0))) : Calls Tryz.prog 19 args w fun e w' => ∃ a c, e = .returned (.tuple #[.agg #[.int .i64 0, .slice a 0 c], .bool false, .int .i64 0]) ∧ Below w0.heap.size w0 w' := c.mono fun e w' ⟨q', v, l, he, hf, hi, hb⟩ => by
  obtain ⟨rfl, rfl⟩ : q' = 0 ∧ l = [] := hi
  obtain ⟨a, c, rfl⟩ := hf.isSlice
  exact ⟨a, c, he, hb⟩
set_option maxHeartbeats 4000000 in
theorem awake12_any (w : World) : Calls Tryz.prog 9 #[] w fun e w' => e = .returned (.bool true) ∧ Below w.heap.size w w' := by
  obtain ⟨W1, hW1⟩ : ∃ W1, W1 = w.alloc (.cells #[.int .i64 2, .int .i64 1, .int .i64 8] 23) := ⟨_, rfl⟩
  obtain ⟨g, hg⟩ : ∃ g, w.heap.size = g := ⟨_, rfl⟩
  have hb1 : Below w.heap.size w W1 := by rw [hW1]; exact (Below.refl _ _).alloc (Nat.le_refl _) _
  have hg1 : W1.heap[g]? = some (.cells #[.int .i64 2, .int .i64 1, .int .i64 8] 23 (0, 0)) := by rw [hW1, ← hg]; exact heap_alloc_new _ _
  have cN : Calls Tryz.prog 33 #[.int .i64 3, .int .i64 72] W1 fun e w' => ∃ S k, e = .returned (.tuple #[.pointer (some ⟨k, 0, none⟩), .int .i64 0]) ∧ RA W1 S w' k 3 (R00 72) := rs_new 3 72 W1 (by decide) (by decide) (by decide) (by decide)
  have cB1 := Lib.hid fun W => block_any11 1 W (by decide) (by decide)
  have cB2 := Lib.hid fun W => block_any11 2 W (by decide) (by decide)
  have HB1 := Lib.hid hb1
  have HG := Lib.hid hg
  clear hb1
  go_enter Tryz.func9, Tryz.ntmps9
  go_wp2_with (fail)
  rw [show w.alloc (.cells #[.int .i64 2, .int .i64 1, .int .i64 8] 23) = W1 from hW1.symm]
  clear hW1 hg
  refine cN.mono ?_
  rintro e w2 ⟨S2, ka, rfl, a2⟩
  have hgl1 := (Array.getElem?_eq_some_iff.1 hg1).1
  have j2 : JW W1 S2 w2 ka 3 g 2 1 8 (R00 72) := ⟨a2, (a2.b.block g hgl1).trans hg1, fun z => by have := RA.from a2 g z; omega⟩
  have hlt : Hid (∀ q, S2 q → q < w2.heap.size) := Lib.hid fun q hq => a2.lt q hq
  have J2 := Lib.hid j2
  clear cN hg1 hgl1 a2 j2
  go_wp2_with (fail)
  refine (cB1.out w2).mono ?_
  rintro e w3 ⟨rfl, b3⟩
  clear cB1
  go_wp2_with (fail)
  refine (cB2.out w3).mono ?_
  rintro e w4 ⟨rfl, b4⟩
  have J4 := Lib.hid ((J2.out.after b3).after b4)
  have b24 := b3.trans (b4.mono b3.size)
  have B24 := Lib.hid b24
  clear cB2 J2 b3 b4
  obtain ⟨S1, hS1⟩ : ∃ S1, S1 = blockS11 1 := ⟨_, rfl⟩
  obtain ⟨S3, hS3⟩ : ∃ S3, S3 = blockS11 2 := ⟨_, rfl⟩
  rw [← hS1, ← hS3]
  obtain ⟨r, hr⟩ : ∃ r, w4.heap.size = r := ⟨_, rfl⟩
  have HR : Hid (S1 = blockS11 1 ∧ S3 = blockS11 2 ∧ w4.heap.size = r) := Lib.hid ⟨hS1, hS3, hr⟩
  have s4 : (w4.alloc (.cells #[.string S1, .string S3] 9)).heap.size = r + 1 := by rw [← hr]; simp
  have s5 : ((w4.alloc (.cells #[.string S1, .string S3] 9)).alloc (.cells #[.int .i64 1, .slice (some ⟨r, 0, none⟩) 2 2] 76)).heap.size = r + 1 + 1 := by rw [← hr]; simp
  have s6 : (((w4.alloc (.cells #[.string S1, .string S3] 9)).alloc (.cells #[.int .i64 1, .slice (some ⟨r, 0, none⟩) 2 2] 76)).alloc (.cells #[.int .i64 1, .slice (some ⟨r + 1, 0, none⟩) 1 1] 30)).heap.size = r + 1 + 1 + 1 := by rw [← hr]; simp
  have hq1 : Reads (w4.alloc (.cells #[.string S1, .string S3] 9)) (.slice (some ⟨r, 0, none⟩) 2 2) ([blockS11 1, blockS11 2].map .string) := by
    rw [← hS1, ← hS3, ← hr]
    refine .inr ⟨w4.heap.size, 0, 2, rfl, by simp, fun i hi => ?_⟩
    have hh := heap_alloc_new w4 (.cells #[.string S1, .string S3] 9)
    match i, hi with
    | 0, _ => exact heap_cell hh rfl
    | 1, _ => exact heap_cell hh rfl
  have hq2 := l12_reads _ r hq1
  rw [s4] at hq2
  have hq3 := RBx.made ((w4.alloc (.cells #[.string S1, .string S3] 9)).alloc (.cells #[.int .i64 1, .slice (some ⟨r, 0, none⟩) 2 2] 76)) 1 (.slice (some ⟨r + 1, 0, none⟩) 1 1) 30
  rw [s5] at hq3
  have bb1 : Below r w4 (w4.alloc (.cells #[.string S1, .string S3] 9)) := (Below.refl _ _).alloc (by omega) _
  have bb2 : Below (r + 1) (w4.alloc (.cells #[.string S1, .string S3] 9)) ((w4.alloc (.cells #[.string S1, .string S3] 9)).alloc (.cells #[.int .i64 1, .slice (some ⟨r, 0, none⟩) 2 2] 76)) := (Below.refl _ _).alloc (by omega) _
  have bb3 : Below (r + 1 + 1) ((w4.alloc (.cells #[.string S1, .string S3] 9)).alloc (.cells #[.int .i64 1, .slice (some ⟨r, 0, none⟩) 2 2] 76)) (((w4.alloc (.cells #[.string S1, .string S3] 9)).alloc (.cells #[.int .i64 1, .slice (some ⟨r, 0, none⟩) 2 2] 76)).alloc (.cells #[.int .i64 1, .slice (some ⟨r + 1, 0, none⟩) 1 1] 30)) := (Below.refl _ _).alloc (by omega) _
  have hq4 := hq2.below (by rw [s5]; exact bb3)
  have b45 := bb1.trans ((bb2.mono (by omega : r ≤ r + 1)).trans (bb3.mono (by omega : r ≤ r + 1 + 1)))
  have J5 := J4.out.after (show Below w4.heap.size w4 _ by rw [hr]; exact b45)
  have HX : Hid (RW W1 S2 (((w4.alloc (.cells #[.string S1, .string S3] 9)).alloc (.cells #[.int .i64 1, .slice (some ⟨r, 0, none⟩) 2 2] 76)).alloc (.cells #[.int .i64 1, .slice (some ⟨r + 1, 0, none⟩) 1 1] 30)) ka 3 g (r + 1 + 1) 2 1 8 1 (.slice (some ⟨r + 1, 0, none⟩) 1 1) (l12 (.slice (some ⟨r, 0, none⟩) 2 2)) (R00 72)) := Lib.hid ⟨J5, hq3, fun z => by
    have h1 := hlt.out _ z
    have h2 := B24.out.size
    omega, ⟨hq4, fun q hq => by
    have h2 := B24.out.size
    have : q = r + 1 ∨ q = r := by
      rcases hq with hq | ⟨s, hs, hq⟩
      · left; cases hq; rfl
      · right
        have hs2 : s ∈ [(⟨1, [blockS11 1, blockS11 2], .slice (some ⟨r, 0, none⟩) 2 2⟩ : St)] := hs
        rw [List.mem_singleton] at hs2
        subst hs2; cases hq; rfl
    refine ⟨by rw [s6]; omega, fun z => ?_⟩
    have h1 := hlt.out _ z
    omega⟩⟩
  have H25 := Lib.hid (b24.trans (b45.mono (show w2.heap.size ≤ r by rw [← hr]; exact b24.size)))
  clear s4 s5 hq1 hq2 hq3 hq4 bb1 bb2 bb3 b45 J5 J4 hS1 hS3 b24 B24
  go_upto_region 6 with (fail)
  generalize (((w4.alloc (.cells #[.string S1, .string S3] 9)).alloc (.cells #[.int .i64 1, .slice (some ⟨r, 0, none⟩) 2 2] 76)).alloc (.cells #[.int .i64 1, .slice (some ⟨r + 1, 0, none⟩) 1 1] 30)) = w5 at *
  obtain ⟨R1, e1, u1, k1, ac1, e3, e2⟩ := aw12_ex (.slice (some ⟨r, 0, none⟩) 2 2)
  have hrt := l12_right (.slice (some ⟨r, 0, none⟩) 2 2)
  have hll : (l12 (.slice (some ⟨r, 0, none⟩) 2 2)).length = 1 := rfl
  generalize l12 (.slice (some ⟨r, 0, none⟩) 2 2) = l at *
  have hl0 : ∀ s ∈ l, s.d.length ≤ 140737488355328 ∧ ∀ t ∈ s.d, t.size ≤ 140737488355328 := fun s hs => by
    have hf := right_f hrt
    exact ⟨by have := hf.d s hs; omega, fun t ht => by have := hf.z s hs t ht; omega⟩
  have HL := Lib.hid hl0
  have HE : Hid ((laM 3 R1 7 2 1 8 (allL 3) = (some (1, l.map pr), 0) ∧ puM 3 R1 7 2 1 8 [0, 0] 1 l = (R1, [], 1)) ∧ ROk 3 R1 768 ∧ R1.acts = 15 ∧ l.length = 1) := Lib.hid ⟨⟨e3, e2⟩, k1, ac1, hll⟩
  have X5 := HX.out
  have q6 : LsN (w5.alloc (.cells #[.int .i64 0, .int .i64 1, .int .i64 2] 3)) S2 (.slice (some ⟨w5.heap.size, 0, none⟩) 3 3) [0, 1, 2] := lsn_new (b := w2.heap.size) (fun q hq => hlt.out q hq) H25.out.size [0, 1, 2] 3 rfl
  have X6 := X5.after (show Below w5.heap.size w5 (w5.alloc (.cells #[.int .i64 0, .int .i64 1, .int .i64 2] 3)) from (Below.refl _ _).alloc (Nat.le_refl _) _)
  have cP : Calls Tryz.prog 13 #[.pointer (some ⟨ka, 0, none⟩), .int .i64 7, .agg #[.int .i64 2, .int .i64 1, .int .i64 8], .slice (some ⟨w5.heap.size, 0, none⟩) 3 3, .agg #[.int .i64 1, .slice (some ⟨r + 1, 0, none⟩) 1 1]] (w5.alloc (.cells #[.int .i64 0, .int .i64 1, .int .i64 2] 3)) (EDoes W1 S2 (w5.alloc (.cells #[.int .i64 0, .int .i64 1, .int .i64 2] 3)) ka 3 (R1, [], 0)) := by
    have := put_any X6.jw.ra 0 (rok_00 3 72) 7 2 1 8 1 _ _ [0, 1, 2] l q6 (show (3 : Nat) ≤ 3 from Nat.le_refl _) (by decide) (by decide) X6.rl.r (by omega) (by decide)
    rw [show puM 3 (R00 72) 7 2 1 8 [0, 1, 2] 1 l = (R1, [], 0) from e1] at this
    exact this
  obtain ⟨⟨a0, a1, a2⟩, a3, a4⟩ := X5.cells
  obtain ⟨⟨d0, d1, d2⟩, d3, d4⟩ := X6.cells
  have H6 := Lib.hid X6
  clear e1 e2 e3 k1 ac1 hll hrt hl0 X5 X6 q6 u1 s6 hr
  go_wp2_with (fail)
  refine cP.mono ?_
  rintro e w7 ⟨v7, rfl, S7, s7, a7, o7, n7⟩
  obtain ⟨x7, y7, hv7⟩ := o7.isSlice
  have X7 := H6.out.stp s7 a7
  have hv7 : v7 = .slice x7 0 y7 := hv7
  subst hv7
  have hS7 : Hid (∀ q, S7 q → q < w7.heap.size) := Lib.hid fun q hq => a7.lt q hq
  have q8 : LsN (w7.alloc (.cells #[.int .i64 0, .int .i64 1, .int .i64 2] 3)) S7 (.slice (some ⟨w7.heap.size, 0, none⟩) 3 3) [0, 1, 2] := lsn_new (b := w7.heap.size) (fun q hq => hS7.out q hq) (Nat.le_refl _) [0, 1, 2] 3 rfl
  have X8 := X7.after (show Below w7.heap.size w7 (w7.alloc (.cells #[.int .i64 0, .int .i64 1, .int .i64 2] 3)) from (Below.refl _ _).alloc (Nat.le_refl _) _)
  clear cP a0 a1 a2 a3 a4 d0 d1 d2 d3 d4 H6 s7 a7 o7 n7
  have cL : Calls Tryz.prog 19 #[.pointer (some ⟨ka, 0, none⟩), .int .i64 7, .agg #[.int .i64 2, .int .i64 1, .int .i64 8], .slice (some ⟨w7.heap.size, 0, none⟩) 3 3] (w7.alloc (.cells #[.int .i64 0, .int .i64 1, .int .i64 2] 3)) (LastTo (w7.alloc (.cells #[.int .i64 0, .int .i64 1, .int .i64 2] 3)) (some (1, l.map pr), 0)) := by
    have := last_any X8.jw.ra (HE.out.2.1.le (by decide)) 7 2 1 8 _ [0, 1, 2] q8 (show (3 : Nat) ≤ 3 from Nat.le_refl _) (by decide)
    rw [show laM 3 R1 7 2 1 8 [0, 1, 2] = (some (1, l.map pr), 0) from HE.out.1.1] at this
    exact this
  obtain ⟨⟨a0, a1, a2⟩, a3, a4⟩ := X7.cells
  obtain ⟨⟨d0, d1, d2⟩, d3, d4⟩ := X8.cells
  have H8 := Lib.hid X8
  clear X7 X8 q8
  go_wp2_with (fail)
  refine (last_some cL).mono ?_
  rintro e w9 ⟨v9, l9, rfl, f9, hp9, b9⟩
  obtain ⟨x9, y9, rfl⟩ := f9.isSlice
  have hF := pr_facts hp9 HL.out 1
  have L9 := RLs.of (S := S7) (w := w7.alloc (.cells #[.int .i64 0, .int .i64 1, .int .i64 2] 3)) f9 hF.2.2 (fun q hq => by have := hS7.out q hq; simp; omega)
  have hn9 : l9.length = 1 := by rw [hF.2.1]; exact HE.out.2.2.2
  rw [hn9] at L9
  rw [hn9]
  have X9 := H8.out.after b9
  have HF : Hid (sameB 1 l9 1 l = true ∧ l9.length = 1) := Lib.hid ⟨hF.1, hn9⟩
  obtain ⟨p, hp⟩ : ∃ p, w9.heap.size = p := ⟨_, rfl⟩
  have X10 := X9.after (show Below w9.heap.size w9 (w9.alloc (.cells #[.int .i64 1, .slice x9 1 y9] 30)) from (Below.refl _ _).alloc (Nat.le_refl _) _)
  have L10 := L9.after (show Below w9.heap.size w9 (w9.alloc (.cells #[.int .i64 1, .slice x9 1 y9] 30)) from (Below.refl _ _).alloc (Nat.le_refl _) _)
  have Z10 := RBx.made w9 1 (.slice x9 1 y9) 30
  rw [hp] at Z10
  have hS9 : Hid (w7.heap.size ≤ p ∧ ∀ q, S7 q → q < p) := Lib.hid ⟨by have := b9.size; simp at this; omega, fun q hq => by have := hS7.out q hq; have := b9.size; simp at this; omega⟩
  clear cL a0 a1 a2 a3 a4 d0 d1 d2 d3 d4 H8 f9 hp9 hF L9 hn9 X9 b9
  go_upto_region 8 with (fail)
  have hz10 : p < (w9.alloc (.cells #[.int .i64 1, .slice x9 1 y9] 30)).heap.size := Z10.lt
  clear hp
  generalize w9.alloc (.cells #[.int .i64 1, .slice x9 1 y9] 30) = wa at *
  have q11 : LsN (wa.alloc (.cells #[.int .i64 0, .int .i64 0] 3)) S7 (.slice (some ⟨wa.heap.size, 0, none⟩) 2 2) [0, 0] := lsn_new (b := p) (fun q hq => hS9.out.2 q hq) (by omega) [0, 0] 2 rfl
  have bb : Below wa.heap.size wa (wa.alloc (.cells #[.int .i64 0, .int .i64 0] 3)) := (Below.refl _ _).alloc (Nat.le_refl _) _
  have X11 := X10.after bb
  have L11 := L10.after bb
  have Z11 := Z10.heap (bb.block p hz10) bb.size
  have cP : Calls Tryz.prog 13 #[.pointer (some ⟨ka, 0, none⟩), .int .i64 7, .agg #[.int .i64 2, .int .i64 1, .int .i64 8], .slice (some ⟨wa.heap.size, 0, none⟩) 2 2, .agg #[.int .i64 1, .slice (some ⟨r + 1, 0, none⟩) 1 1]] (wa.alloc (.cells #[.int .i64 0, .int .i64 0] 3)) (EDoes W1 S7 (wa.alloc (.cells #[.int .i64 0, .int .i64 0] 3)) ka 3 (R1, [], 1)) := by
    have := put_any X11.jw.ra 768 HE.out.2.1 7 2 1 8 1 _ _ [0, 0] l q11 (show (2 : Nat) ≤ 2 from Nat.le_refl _) (by decide) (by decide) X11.rl.r (by have := HE.out.2.2.2; omega) (by decide)
    rw [HE.out.1.2] at this
    exact this
  obtain ⟨⟨a0, a1, a2⟩, a3, a4⟩ := X10.cells
  obtain ⟨⟨d0, d1, d2⟩, d3, d4⟩ := X11.cells
  have H11 := Lib.hid (And.intro X11 (And.intro L11 Z11))
  clear X10 X11 L10 L11 Z10 Z11 q11 bb hz10
  go_wp2_with (fail)
  refine cP.mono ?_
  rintro e wf ⟨vf, rfl, Sf, sf, af, of, nf⟩
  obtain ⟨X, L, Z⟩ := H11.out
  have hpn : ¬ S7 p := fun z => by have := hS9.out.2 _ z; omega
  have XF := X.stp sf af
  have LF := L.stp sf
  have ZF := Z.heap (sf.oth p Z.lt hpn) sf.b0.size
  have cA := rt_acts XF.jw.ra
  rw [HE.out.2.2.1] at cA
  have cS : Calls Tryz.prog 20 #[.agg #[.int .i64 1, .slice x9 1 y9], .agg #[.int .i64 1, .slice (some ⟨r + 1, 0, none⟩) 1 1]] wf (Tells wf (.bool true)) := by
    have := rsame11_any 1 1 (.slice x9 1 y9) (.slice (some ⟨r + 1, 0, none⟩) 1 1) l9 l wf LF.r XF.rl.r (by have := HF.out.2; omega)
    rw [HF.out.1] at this
    exact this
  obtain ⟨_, g3, g4⟩ := XF.cells
  have z0 := ZF.c0
  have z1 := ZF.c1
  have HB := Lib.hid (HB1.out.trans (XF.jw.ra.b.mono HB1.out.size))
  clear cP a0 a1 a2 a3 a4 d0 d1 d2 d3 d4 H11 X L Z XF LF ZF sf af of nf hpn
  go_wp2_with (fail)
  refine cA.mono ?_
  rintro e wg ⟨rfl, rfl⟩
  clear cA
  go_wp2_with (fail)
  refine cS.mono ?_
  rintro e wg ⟨rfl, bg⟩
  go_wp2_with (fail)
  go_ret
  exact ⟨rfl, HB.out.trans (bg.mono HB.out.size)⟩
end Go.Proofs.YtfadglcpapiklaaGreatDoor
