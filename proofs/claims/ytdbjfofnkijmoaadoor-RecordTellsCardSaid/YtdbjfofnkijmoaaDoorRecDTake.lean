/- record: the document's Take. -/
import Derived.Test.YtdbjfofnkijmoaaDoorRecTakeM
namespace Go.Proofs.YtdbjfofnkijmoaaDoor
section
open Go.RowKit
set_option linter.unusedVariables false
set_option linter.unusedSimpArgs false

open Rc
theorem res_take {tm : Array Value} {W : World} {b : Nat} {q : Int} {v x : Value} (h : RBx W b q v) (h4 : tm.getD 6 undef = .pointer (some ⟨b, 0, none⟩)) (h5 : tm.getD 7 undef = x) :
    (results Tryd.f14 tm).run Tryd.prog W = .ok (.tuple #[.agg #[.int .i64 q, v], x]) W := by
  have h4' : tm[6]?.getD undef = .pointer (some ⟨b, 0, none⟩) := by simpa using h4
  have h5' : tm[7]?.getD undef = x := by simpa using h5
  simp [results, Tryd.results14, go_sem, h4', h5', h.c0, h.c1]
/-- k stripes have their data. -/
structure Fk (h : ByteArray) (K : Nat) (b : List ByteArray) (k : Nat) (l : List St) : Prop where
  n : l.map St.n = (hdS h).map St.n
  d : ∀ i (hi : i < l.length), i < k → l[i].d = chunk K b i
  z : ∀ i (hi : i < l.length), k ≤ i → l[i].d = []
theorem Fk.zero (h : ByteArray) (K : Nat) (b : List ByteArray) : Fk h K b 0 (hdS h) := by
  refine ⟨rfl, fun i _ hk => absurd hk (Nat.not_lt_zero _), fun i hi _ => ?_⟩
  have : (hdS h)[i] ∈ hdS h := List.getElem_mem hi
  obtain ⟨j, _, e⟩ := List.mem_map.1 this
  rw [← e]; rfl
theorem Fk.len {h : ByteArray} {K k : Nat} {b : List ByteArray} {l : List St} (f : Fk h K b k l) : l.length = (hdS h).length := by have := congrArg List.length f.n; simpa using this
theorem Fk.set {h : ByteArray} {K k : Nat} {b : List ByteArray} {l : List St} (f : Fk h K b k l) (hk : k < l.length) (u : Value) : Fk h K b (k + 1) (l.set k ⟨l[k].n, chunk K b k, u⟩) := by
  refine ⟨?_, fun i hi hik => ?_, fun i hi hik => ?_⟩
  · rw [← f.n]
    apply List.ext_getElem (by simp)
    intro i h1 h2
    simp only [List.getElem_map, List.getElem_set]
    split
    · subst k; rfl
    · rfl
  · rw [List.length_set] at hi
    rw [List.getElem_set]
    split
    · subst k; rfl
    · exact f.d i hi (by omega)
  · rw [List.length_set] at hi
    rw [List.getElem_set, if_neg (by omega)]
    exact f.z i hi (by omega)
theorem Fk.all {h : ByteArray} {K n : Nat} {b : List ByteArray} {l : List St} (f : Fk h K b n l) (hn : n = l.length) (hb : b.length = l.length * K) : allT l = b ∧ ∀ s ∈ l, s.d.length = K := by
  have e : l.map St.d = (List.range l.length).map (chunk K b) := by
    apply List.ext_getElem (by simp)
    intro i h1 h2
    have hi : i < l.length := by simpa using h1
    simp only [List.getElem_map, List.getElem_range]
    exact f.d i hi (by omega)
  refine ⟨?_, fun s hs => ?_⟩
  · show l.flatMap (fun s => s.d) = b
    rw [← flat_chunks K l.length b hb, List.flatMap_def, List.flatMap_def, e]
  · obtain ⟨i, hi, rfl⟩ := List.mem_iff_getElem.1 hs
    rw [f.d i hi (by omega)]
    unfold chunk
    rw [List.length_take, List.length_drop, hb]
    have : (i + 1) * K ≤ l.length * K := Nat.mul_le_mul_right _ hi
    rw [Nat.succ_mul] at this
    omega
structure TIn (w : World) (p x y c : Nat) (K : Nat) (M B : Int) (h : ByteArray) (b : List ByteArray) (k : Nat) (wr : World) (l : List St) : Prop where
  g : GBx wr p (K : Int) M B
  z : RBx wr (p + 1) 0 (.slice none 0 0)
  o : RBx wr x (hdQ h) (.slice (some ⟨y, 0, none⟩) (hdS h).length c)
  f : SFam wr (p + 2) (.slice (some ⟨y, 0, none⟩) (hdS h).length c) l
  k : Fk h K b k l
  b : Below p w wr
set_option maxRecDepth 100000 in
set_option maxHeartbeats 4000000 in
theorem take11_any (K M B : Int) (h : ByteArray) (v : Value) (b : List ByteArray) (w : World) (hs : h.size ≤ 140737488355328) (hb : Reads w v (b.map .string)) (hbz : ∀ t ∈ b, t.size ≤ 140737488355328) (hbn : b.length ≤ 140737488351232) (hcap : ∀ a n c, v = .slice a n c → n ≤ c) :
    Calls Tryd.prog 14 #[.agg #[.int .i64 K, .int .i64 M, .int .i64 B], .string h, v] w (GivesTk w K M B h b) := by
  obtain ⟨p, hp⟩ : ∃ p, w.heap.size = p := ⟨_, rfl⟩
  have hbad : Hid (takeB K M B h b = false → ∀ w', Below p w w' → GivesTk w K M B h b (.returned (.tuple #[.agg #[.int .i64 0, .slice none 0 0], .int .i64 110])) w') := Lib.hid fun hB w' hb => GivesTk.bad hB (by rw [hp]; exact hb)
  have g0 := GBx.made w K M B 23
  have b0 : Below p w (w.alloc (.cells #[.int .i64 K, .int .i64 M, .int .i64 B] 23)) := (Below.refl _ _).alloc (by omega) _
  rw [hp] at g0
  obtain ⟨va, vc, hv⟩ := hb.isSlice
  rw [List.length_map] at hv
  have hcv := hcap _ _ _ hv
  subst hv
  clear hcap
  have hsz : (w.alloc (.cells #[.int .i64 K, .int .i64 M, .int .i64 B] 23)).heap.size = p + 1 := by simp [hp]
  have z1 := RBx.made (w.alloc (.cells #[.int .i64 K, .int .i64 M, .int .i64 B] 23)) 0 (.slice none 0 0) 26
  have bb : Below (p + 1) (w.alloc (.cells #[.int .i64 K, .int .i64 M, .int .i64 B] 23)) ((w.alloc (.cells #[.int .i64 K, .int .i64 M, .int .i64 B] 23)).alloc (.cells #[.int .i64 0, .slice none 0 0] 26)) := (Below.refl _ _).alloc (by omega) _
  rw [hsz] at z1
  have g1 := g0.below bb (by omega)
  have b1 := b0.trans (bb.mono (by omega))
  have hb1 := hb.below (by rw [hp]; exact b1)
  clear hsz g0 b0 bb
  have e0 := g1.c0
  have e1 := g1.c1
  have e2 := g1.c2
  have hp2 : p + 1 + 1 ≤ ((w.alloc (.cells #[.int .i64 K, .int .i64 M, .int .i64 B] 23)).alloc (.cells #[.int .i64 0, .slice none 0 0] 26)).heap.size := by simp [hp]
  go_enter Tryd.func14, Tryd.ntmps14
  go_wp2_with (fail)
  clear e0 e1 e2
  replace hp := Lib.hid hp
  generalize (w.alloc (.cells #[.int .i64 K, .int .i64 M, .int .i64 B] 23)).alloc (.cells #[.int .i64 0, .slice none 0 0] 26) = w1 at *
  refine (parse_any K M B h w1 hs).mono ?_
  rintro e w2 ⟨u, rfl, f2, b2⟩
  have g2 := g1.below b2 g1.lt
  have z2 := z1.below b2 z1.lt
  have hb2 := hb1.below b2
  have b3 := b1.trans (b2.mono (by omega))
  have hs2 := b2.size
  clear g1 z1 hb1 b1 b2
  cases ht : headB K M B h with
  | false =>
    have hB : takeB K M B h b = false := by unfold takeB; rw [ht]; rfl
    replace hbad := Lib.hid (hbad.out hB)
    rw [ht] at f2
    simp only [Bool.false_eq_true, if_false] at f2 ⊢
    obtain ⟨ua, uc, rfl⟩ := f2.o.isSlice
    rw [List.length_nil]
    have X := RBx.made w2 0 (.slice ua 0 uc) 26
    have bb : Below w2.heap.size w2 (w2.alloc (.cells #[.int .i64 0, .slice ua 0 uc] 26)) := (Below.refl _ _).alloc (Nat.le_refl _) _
    have z4 := z2.below bb z2.lt
    have b4 := b3.trans (bb.mono (by omega))
    clear hB ht f2
    have e0 := z4.c0
    have e1 := z4.c1
    have e2 := z4.f0
    have e3 := z4.f1
    go_wp2_with (fail)
    refine bodyPost_ret (res_take (z4.put 0 (.slice none 0 0)) rfl rfl) rfl ?_
    exact hbad.out _ (put_below b4 (by omega) _ _)
  | true =>
    have hk := headB_K ht
    obtain ⟨kk, rfl⟩ := Int.eq_ofNat_of_zero_le (show 0 ≤ K by omega)
    have hk1 : 1 ≤ kk := by omega
    have hk4 : kk ≤ 4 := by omega
    have hn1 := hk.2.1
    have hn16 := hk.2.2
    rw [ht] at f2
    simp only [if_true] at f2 ⊢
    obtain ⟨y, yc, rfl, hy, hy2⟩ := f2.o.form (by omega)
    have X := RBx.made w2 (hdQ h) (.slice (some ⟨y, 0, none⟩) (hdS h).length yc) 26
    have bb : Below w2.heap.size w2 (w2.alloc (.cells #[.int .i64 (hdQ h), .slice (some ⟨y, 0, none⟩) (hdS h).length yc] 26)) := (Below.refl _ _).alloc (Nat.le_refl _) _
    have z4 := z2.below bb z2.lt
    have g4 := g2.below bb g2.lt
    have f4 := f2.after bb
    have hb4 := hb2.below bb
    have b4 := b3.trans (bb.mono (by omega))
    clear hk z2 g2 f2 hb2 b3 bb
    obtain ⟨x, hx⟩ : ∃ x, w2.heap.size = x := ⟨_, rfl⟩
    rw [hx] at X hy2
    have e0 := z4.c0
    have e1 := z4.c1
    have e2 := z4.f0
    have e3 := z4.f1
    have e4 := g4.c0
    have e5 := X.c0
    have e6 := X.c1
    have hmul : ((hdS h).length : Int) * (kk : Int) = (((hdS h).length * kk : Nat) : Int) := by simp
    have hmx : (hdS h).length * kk ≤ 64 := by have := Nat.mul_le_mul hn16 hk4; omega
    have hwr : IntKind.i64.wrap (((hdS h).length : Int) * (kk : Int)) = (((hdS h).length * kk : Nat) : Int) := by rw [hmul]; exact IntWalk.i64_in _ (by omega)
    replace hwr := Lib.hid hwr
    replace hmul := Lib.hid hmul
    by_cases hlen : b.length = (hdS h).length * kk
    · have heq : (((b.length : Int)) != (((hdS h).length * kk : Nat) : Int)) = false := by rw [hlen, bne_self_eq_false]
      have hr1 : Reads w (.slice va b.length vc) (b.map .string) := hb
      obtain ⟨bb, off, rfl⟩ : ∃ bb off, va = some ⟨bb, off, none⟩ := by
        rcases hb with ⟨_, h0⟩ | ⟨bb, off, cap, h1, _⟩
        · have : b.length = 0 := by have := congrArg List.length h0; simpa using this
          have : 1 * 1 ≤ (hdS h).length * kk := Nat.mul_le_mul hn1 hk1
          omega
        · exact ⟨bb, off, by simp at h1; exact h1.1⟩
      have hI0 : Hid (TIn w p x y yc kk M B h b 0 (w2.alloc (.cells #[.int .i64 (hdQ h), .slice (some ⟨y, 0, none⟩) (hdS h).length yc] 26)) (hdS h)) := Lib.hid ⟨g4, z4, X, f4.mono (by omega), Fk.zero _ _ _, b4⟩
      have hwr' := hwr.out
      replace hlen := Lib.hid hlen
      have hbK : Hid (Reads w (.slice (some ⟨bb, off, none⟩) b.length vc) (b.map .string)) := Lib.hid hb
      clear hb
      generalize hN : (hdS h).length = n at *
      replace hN := Lib.hid hN
      generalize hnk : n * kk = nk at *
      replace hnk := Lib.hid hnk
      clear z4 g4 X b4 f4 hb4
      go_wp2_with (fail)
      generalize w2.alloc (.cells #[.int .i64 (hdQ h), .slice (some ⟨y, 0, none⟩) n yc] 26) = w5 at *
      clear e0 e1 e2 e3 e4 e5 e6 hwr' heq
      go_loopw [36] (fun t wr => ∃ k : Nat, k ≤ n ∧ t = .int .i64 (k : Int) ∧ ∃ l, TIn w p x y yc kk M B h b k wr l) (fun t _ => n - (intOf t).toNat)
      case atStart => exact ⟨0, by omega, rfl, _, hI0.out⟩
      case round =>
        obtain ⟨k, hk, rfl, l, hI⟩ := hrel
        rename World => wr
        clear hI0
        obtain ⟨g0, z0, o0, f0, fk, b0⟩ := hI
        rw [hN.out] at o0 f0
        have hl := fk.len
        rw [hN.out] at hl
        by_cases hlt : k < n
        · have y1 : (k : Int) < (n : Int) := by omega
          have g1 : GBx wr.drew p kk M B := g0.heap rfl (Nat.le_refl _)
          have z1 : RBx wr.drew (p + 1) 0 (.slice none 0 0) := z0.heap rfl (Nat.le_refl _)
          have o1 : RBx wr.drew x (hdQ h) (.slice (some ⟨y, 0, none⟩) n yc) := o0.heap rfl (Nat.le_refl _)
          have f1 : SFam wr.drew (p + 2) (.slice (some ⟨y, 0, none⟩) n yc) l := f0.heap fun _ _ _ => rfl
          have b1 : Below p w wr.drew := b0.trans ⟨rfl, rfl, rfl, Nat.le_refl _, fun _ _ => rfl⟩
          clear g0 z0 o0 f0 b0
          have e1 := o1.c1
          have e2 := g1.c0
          have q1 : (k + 1) * kk ≤ n * kk := Nat.mul_le_mul_right _ hlt
          have q2 : (k + 1) * kk = k * kk + kk := Nat.succ_mul _ _
          have q3 := hnk.out
          have q4 := hlen.out
          have hm1 : IntKind.i64.wrap ((k : Int) * (kk : Int)) = ((k * kk : Nat) : Int) := by
            rw [show (k : Int) * (kk : Int) = ((k * kk : Nat) : Int) by simp]; exact IntWalk.i64_in _ (by omega)
          have hm2 : IntKind.i64.wrap (((k : Int) + 1) * (kk : Int)) = ((k * kk + kk : Nat) : Int) := by
            rw [show ((k : Int) + 1) * (kk : Int) = (((k + 1) * kk : Nat) : Int) by simp, q2]; exact IntWalk.i64_in _ (by omega)
          have hm3 : IntKind.i64.wrap ((k : Int) + 1) = (k : Int) + 1 := IntWalk.i64_in _ (by omega)
          obtain ⟨lo, hlo⟩ : ∃ lo, k * kk = lo := ⟨_, rfl⟩
          rw [hlo] at hm1 hm2 q2
          obtain ⟨hi, hhi⟩ : ∃ hi, lo + kk = hi := ⟨_, rfl⟩
          rw [hhi] at hm2
          have q5 : hi ≤ b.length := by omega
          have q6 : hi ≤ vc := by omega
          have q7 : lo ≤ hi := by omega
          have q8 : ¬ vc = lo := by omega
          have hck : chunk kk b k = (b.drop lo).take kk := by unfold chunk; rw [hlo]
          have hckl : (chunk kk b k).length = hi - lo := by rw [hck, List.length_take, List.length_drop]; omega
          have hrd : Hid (∀ W, Below wr.drew.heap.size wr.drew W → Reads W (.slice (some ⟨bb, off + lo, none⟩) (hi - lo) (vc - lo)) ((chunk kk b k).map .string)) := Lib.hid fun W hW => by
            have hr2 := (hbK.out.below (by rw [hp.out]; exact b1)).below hW
            rcases hr2 with ⟨_, h0⟩ | ⟨b', off', cap', h1, h2, h3⟩
            · have : b.length = 0 := by have := congrArg List.length h0; simpa using this
              omega
            · simp only [Value.slice.injEq, Option.some.injEq, Addr.mk.injEq] at h1
              obtain ⟨⟨rfl, rfl, _⟩, _, rfl⟩ := h1
              refine .inr ⟨bb, off + lo, vc - lo, by rw [List.length_map, hckl], h2, fun i hi' => ?_⟩
              rw [List.length_map, hckl] at hi'
              rw [Nat.add_assoc, h3 (lo + i) (by rw [List.length_map]; omega), hck, List.map_take, List.map_drop]
              simp only [List.getD_eq_getElem?_getD]
              rw [List.getElem?_take_of_lt (by omega), List.getElem?_drop]
          have hckn : (chunk kk b k).length ≤ 1000 := by omega
          have hyx := hy2
          replace hlo := Lib.hid hlo
          replace hhi := Lib.hid hhi
          replace hck := Lib.hid hck
          replace hckl := Lib.hid hckl
          clear q1 q2 q3 q4
          have hcl := fun W hW => cloneT_any (.slice (some ⟨bb, off + lo, none⟩) (hi - lo) (vc - lo)) (chunk kk b k) W (hrd.out W hW) hckn
          have hyl := (f1.o.lt y rfl).2
          have hxl := o1.lt
          have q9 : k < l.length := by omega
          go_wp2_with (fail)
          go_region_law (first
            | (go_simp; go_at_call 32; refine (hcl _ (Below.refl _ _)).mono ?_; rintro e w7 ⟨u, rfl, hu, b7⟩
               obtain ⟨ua, uc, ev⟩ := hu.isSlice
               rw [List.length_map] at ev
               subst ev
               have f7 := f1.after b7
               have cy : w7.cell? ⟨y, k * 2 + 1, none⟩ = some (cell1 l[k].v) := f7.o.cell (i := k) q9 (j := 1) (by decide)
               have dy := f7.o.frozen (k * 2 + 1)
               have c7 := (o1.below b7 hxl).c1
               have g7 := (g1.below b7 g1.lt).c0
               have sf := Lib.hid (f7.setV (i := k) q9 hu (by omega) (fun s hs j hj => (f1.old s.v (.inr ⟨s, hs, rfl⟩) j hj).2) hyl)
               replace f7 := Lib.hid f7
               replace hu := Lib.hid hu))
          all_goals
            go_wp2_with (fail)
            go_roundw
            case rel =>
              have hyp : p + 2 ≤ y := by omega
              have hz1 := z1.lt
              have hg1 := g1.lt
              refine ⟨k + 1, by omega, by go_num, l.set k ⟨l[k].n, chunk kk b k, .slice ua (chunk kk b k).length uc⟩, ?_⟩
              refine ⟨(g1.below b7 hg1).heap (Below.heap_setCell _ _ _ _ (by show p ≠ y; omega)) (by simp), (z1.below b7 hz1).heap (Below.heap_setCell _ _ _ _ (by show p + 1 ≠ y; omega)) (by simp), ?_, ?_, fk.set q9 _, ?_⟩
              · rw [hN.out]; exact (o1.below b7 hxl).heap (Below.heap_setCell _ _ _ _ (by show x ≠ y; omega)) (by simp)
              · rw [hN.out]; exact sf.out
              · exact (b1.trans (b7.mono (by omega))).setCell (p := ⟨y, k * 2 + 1, none⟩) (by show p ≤ y; omega) _
            case measure => simp [intOf]; omega
        · obtain rfl : k = n := by omega
          have y1 : ¬ ((k : Int) < (k : Int)) := by omega
          have hbl : b.length = l.length * kk := by have := hnk.out; have := hlen.out; rw [hl]; omega
          obtain ⟨hall, hdk⟩ := fk.all hl.symm hbl
          have hrd := f0.reads fun s hs => ⟨by rw [hdk s hs]; omega, fun t ht' => hbz t (by rw [← hall]; exact List.mem_flatMap.2 ⟨s, hs, ht'⟩)⟩
          have hrB : rightB (kk : Int) M B (hdQ h) l = txtB b := by
            unfold rightB
            rw [all_st (by omega) (fun s hs => by rw [hdk s hs]; simp), hall, ordB_nums fk.n]
            have : ordB (kk : Int) M B (hdQ h) (hdS h) = true := by unfold headB at ht; simp only [Bool.and_eq_true] at ht; exact ht.2.2
            rw [this, Bool.true_and]
          have hB : Hid (takeB (kk : Int) M B h b = (txtB b && decide (((sumT b : Nat) : Int) = hdC h))) := Lib.hid (by
            unfold takeB
            have : (b.length : Int) = ((hdS h).length : Int) * (kk : Int) := by rw [hN.out, hmul.out, hlen.out]
            rw [ht, decide_eq_true this]; rfl)
          have hgo : Hid (takeB (kk : Int) M B h b = true → ∀ w', SFam w' (p + 2) (.slice (some ⟨y, 0, none⟩) k yc) l → Below p w w' → GivesTk w (kk : Int) M B h b (.returned (.tuple #[.agg #[.int .i64 (hdQ h), .slice (some ⟨y, 0, none⟩) k yc], .int .i64 0])) w') := Lib.hid fun hB w' hf hb =>
            GivesTk.ok hB (hf.mono (by rw [hp.out]; omega)) (take_l fk.n (fun s hs => by rw [hdk s hs]; simp) hall) (by rw [hp.out]; exact hb)
          rw [← hl] at hrd
          have cR := fun W (hw : SReads W (.slice (some ⟨y, 0, none⟩) l.length yc) l) => right11_any (kk : Int) M B (hdQ h) (.slice (some ⟨y, 0, none⟩) l.length yc) l W hw (by omega)
          have cC := fun W (hw : SReads W (.slice (some ⟨y, 0, none⟩) l.length yc) l) => checksum_any (hdQ h) (.slice (some ⟨y, 0, none⟩) l.length yc) l W hw (by omega)
          rw [hrB] at cR
          rw [hall] at cC
          rw [hl] at hrd cR cC
          clear hall hdk hrB fk hbl ht hbz
          generalize txtB b = tb at *
          generalize sumT b = sb at *
          have e0 := g0.c0
          have e1 := g0.c1
          have e2 := g0.c2
          have e3 := o0.c0
          have e4 := o0.c1
          replace hl := Lib.hid hl
          go_wp2_with (fail)
          refine (cR _ hrd).mono ?_
          rintro e w6 ⟨rfl, b6⟩
          have z6 := z0.below b6 z0.lt
          have o6 := o0.below b6 o0.lt
          have f6 := f0.after b6
          have r6 := hrd.below b6
          have bb6 := b0.trans (b6.mono (by have := g0.lt; omega))
          have hpw : p + 1 < w6.heap.size := z6.lt
          clear e0 e1 e2 e3 e4 g0 z0 o0 f0 hrd b0 b6 cR
          cases tb with
          | false =>
            have hB' := hB.out
            rw [Bool.false_and] at hB'
            replace hbad := Lib.hid (hbad.out hB')
            have e0 := z6.c0
            have e1 := z6.c1
            have e2 := z6.f0
            have e3 := z6.f1
            clear hB' hB
            go_wp2_with (fail)
            refine bodyPost_ret (res_take (z6.put 0 (.slice none 0 0)) rfl rfl) rfl ?_
            exact hbad.out _ (put_below bb6 (by omega) _ _)
          | true =>
            have hB' := hB.out
            rw [Bool.true_and] at hB'
            replace hB' := Lib.hid hB'
            clear hB
            have e3 := o6.c0
            have e4 := o6.c1
            go_wp2_with (fail)
            refine (cC _ r6).mono ?_
            rintro e w7 ⟨rfl, b7⟩
            have z7 := z6.below b7 z6.lt
            have o7 := o6.below b7 o6.lt
            have f7 := f6.after b7
            have bb7 := bb6.trans (b7.mono (by omega))
            clear e3 e4 z6 o6 f6 r6 bb6 b7 cC
            have e0 := z7.c0
            have e1 := z7.c1
            have e2 := z7.f0
            have e3 := z7.f1
            have e4 := o7.c0
            have e5 := o7.c1
            by_cases hs' : ((sb : Nat) : Int) = hdC h
            · have ne : (((sb : Nat) : Int) != hdC h) = false := by rw [hs', bne_self_eq_false]
              have hB := hB'.out
              rw [decide_eq_true hs'] at hB
              replace hgo := Lib.hid (hgo.out hB)
              clear hs' hB hB'
              go_wp2_with (fail)
              refine bodyPost_ret (res_take (z7.put (hdQ h) (.slice (some ⟨y, 0, none⟩) k yc)) rfl rfl) rfl ?_
              exact hgo.out _ (f7.heap fun j h1 h2 => put_heap _ _ _ _ (by omega)) (put_below bb7 (by omega) _ _)
            · have ne : (((sb : Nat) : Int) != hdC h) = true := by rw [bne_iff_ne]; exact hs'
              have hB := hB'.out
              rw [decide_eq_false hs'] at hB
              replace hbad := Lib.hid (hbad.out hB)
              clear hs' hB hB'
              go_wp2_with (fail)
              refine bodyPost_ret (res_take (z7.put 0 (.slice none 0 0)) rfl rfl) rfl ?_
              exact hbad.out _ (put_below bb7 (by omega) _ _)
    · have hB : takeB (kk : Int) M B h b = false := by
        unfold takeB; rw [ht, hmul.out, decide_eq_false (by omega)]; rfl
      replace hbad := Lib.hid (hbad.out hB)
      have hne : (((b.length : Int)) != (((hdS h).length * kk : Nat) : Int)) = true := by rw [bne_iff_ne]; omega
      clear hB ht f4 hlen
      generalize (hdS h).length * kk = nk at *
      have hwr' := hwr.out
      go_wp2_with (fail)
      refine bodyPost_ret (res_take (z4.put 0 (.slice none 0 0)) rfl rfl) rfl ?_
      exact hbad.out _ (put_below b4 (by omega) _ _)
end
section
open Go.RowKit
set_option linter.unusedVariables false
set_option linter.unusedSimpArgs false

open Rc
theorem res_dtake {tm : Array Value} {W : World} {b : Nat} {q : Int} {v x : Value} (h : RBx W b q v) (h4 : tm.getD 6 undef = .pointer (some ⟨b, 0, none⟩)) (h5 : tm.getD 7 undef = x) :
    (results Tryd.f15 tm).run Tryd.prog W = .ok (.tuple #[.agg #[.int .i64 q, v], x]) W := by
  have h4' : tm[6]?.getD undef = .pointer (some ⟨b, 0, none⟩) := by simpa using h4
  have h5' : tm[7]?.getD undef = x := by simpa using h5
  simp [results, Tryd.results15, go_sem, h4', h5', h.c0, h.c1]
/-- k texts are there. -/
structure Gk (h : ByteArray) (K : Nat) (b z : List ByteArray) (l0 : List St) (k : Nat) (l : List St) : Prop where
  n : l.map St.n = (hdS h).map St.n
  d : ∀ s ∈ l, s.d.length = K
  v : l.map St.v = l0.map St.v
  a : allT l = b.take k ++ z.drop k
theorem Gk.set {h : ByteArray} {K k : Nat} {b z : List ByteArray} {l0 l : List St} (f : Gk h K b z l0 k l) (hb : k < b.length) (hz : k < z.length) {i j : Nat} (hi : i < l.length) (hj : j < K) (hk : i * K + j = k) : Gk h K b z l0 (k + 1) (l.set i { l[i] with d := l[i].d.set j b[k] }) := by
  refine ⟨?_, fun s hs => ?_, ?_, ?_⟩
  · rw [← f.n]
    apply List.ext_getElem (by simp)
    intro a h1 h2
    simp only [List.getElem_map, List.getElem_set]
    split
    · subst i; rfl
    · rfl
  · rcases mem_set_of hs with rfl | hs
    · show (l[i].d.set j b[k]).length = K
      rw [List.length_set]; exact f.d _ (List.getElem_mem hi)
    · exact f.d s hs
  · rw [← f.v]
    apply List.ext_getElem (by simp)
    intro a h1 h2
    simp only [List.getElem_map, List.getElem_set]
    split
    · subst i; rfl
    · rfl
  · rw [allT_set f.d hi hj, hk, f.a, upto_set b z hb hz]
structure UIn (w : World) (p x y c n : Nat) (K : Nat) (M B : Int) (h : ByteArray) (b Z : List ByteArray) (l0 : List St) (k : Nat) (wr : World) (l : List St) : Prop where
  g : GBx wr p (K : Int) M B
  z : RBx wr (p + 1) 0 (.slice none 0 0)
  o : RBx wr x (hdQ h) (.slice (some ⟨y, 0, none⟩) n c)
  f : SFam wr (p + 2) (.slice (some ⟨y, 0, none⟩) n c) l
  k : Gk h K b Z l0 k l
  b : Below p w wr
set_option maxRecDepth 100000 in
set_option maxHeartbeats 4000000 in
theorem rtake11_any (K M B : Int) (h : ByteArray) (v : Value) (b : List ByteArray) (w : World) (hs : h.size ≤ 140737488355328) (hb : Reads w v (b.map .string)) (hbz : ∀ t ∈ b, t.size ≤ 140737488355328) (hbn : b.length ≤ 140737488351232) :
    Calls Tryd.prog 15 #[.agg #[.int .i64 K, .int .i64 M, .int .i64 B], .string h, v] w (GivesTk w K M B h b) := by
  obtain ⟨p, hp⟩ : ∃ p, w.heap.size = p := ⟨_, rfl⟩
  have hbad : Hid (takeB K M B h b = false → ∀ w', Below p w w' → GivesTk w K M B h b (.returned (.tuple #[.agg #[.int .i64 0, .slice none 0 0], .int .i64 110])) w') := Lib.hid fun hB w' hb => GivesTk.bad hB (by rw [hp]; exact hb)
  have g0 := GBx.made w K M B 23
  have b0 : Below p w (w.alloc (.cells #[.int .i64 K, .int .i64 M, .int .i64 B] 23)) := (Below.refl _ _).alloc (by omega) _
  rw [hp] at g0
  obtain ⟨va, vc, hv⟩ := hb.isSlice
  rw [List.length_map] at hv
  subst hv
  have hsz : (w.alloc (.cells #[.int .i64 K, .int .i64 M, .int .i64 B] 23)).heap.size = p + 1 := by simp [hp]
  have z1 := RBx.made (w.alloc (.cells #[.int .i64 K, .int .i64 M, .int .i64 B] 23)) 0 (.slice none 0 0) 26
  have bb : Below (p + 1) (w.alloc (.cells #[.int .i64 K, .int .i64 M, .int .i64 B] 23)) ((w.alloc (.cells #[.int .i64 K, .int .i64 M, .int .i64 B] 23)).alloc (.cells #[.int .i64 0, .slice none 0 0] 26)) := (Below.refl _ _).alloc (by omega) _
  rw [hsz] at z1
  have g1 := g0.below bb (by omega)
  have b1 := b0.trans (bb.mono (by omega))
  have hb1 := hb.below (by rw [hp]; exact b1)
  clear hsz g0 b0 bb
  have e0 := g1.c0
  have e1 := g1.c1
  have e2 := g1.c2
  have hp2 : p + 1 + 1 ≤ ((w.alloc (.cells #[.int .i64 K, .int .i64 M, .int .i64 B] 23)).alloc (.cells #[.int .i64 0, .slice none 0 0] 26)).heap.size := by simp [hp]
  go_enter Tryd.func15, Tryd.ntmps15
  go_wp2_with (fail)
  clear e0 e1 e2
  replace hp := Lib.hid hp
  generalize (w.alloc (.cells #[.int .i64 K, .int .i64 M, .int .i64 B] 23)).alloc (.cells #[.int .i64 0, .slice none 0 0] 26) = w1 at *
  refine (rread_any K M B h w1 hs).mono ?_
  rintro e w2 ⟨q, u, c, l, rfl, gr⟩
  have b2 := gr.b
  have f2 := gr.f
  have g2 := g1.below b2 g1.lt
  have z2 := z1.below b2 z1.lt
  have hb2 := hb1.below b2
  have b3 := b1.trans (b2.mono (by omega))
  have hs2 := b2.size
  clear g1 z1 hb1 b1 b2
  have hbz0 := hbz
  clear hbz
  obtain ⟨ua, uc, rfl⟩ := f2.o.isSlice
  have X := RBx.made w2 q (.slice ua l.length uc) 26
  have bb : Below w2.heap.size w2 (w2.alloc (.cells #[.int .i64 q, .slice ua l.length uc] 26)) := (Below.refl _ _).alloc (Nat.le_refl _) _
  have z4 := z2.below bb z2.lt
  have g4 := g2.below bb g2.lt
  have f4 := f2.after bb
  have hb4 := hb2.below bb
  have b4 := b3.trans (bb.mono (by omega))
  have hold := f2.old
  clear z2 g2 f2 hb2 b3 bb
  obtain ⟨x, hx⟩ : ∃ x, w2.heap.size = x := ⟨_, rfl⟩
  rw [hx] at X
  have e0 := z4.c0
  have e1 := z4.c1
  have e2 := z4.f0
  have e3 := z4.f1
  have e4 := g4.c0
  have e5 := X.c0
  have e6 := X.c1
  cases ht : headB K M B h with
  | false =>
    have hB : takeB K M B h b = false := by unfold takeB; rw [ht]; rfl
    replace hbad := Lib.hid (hbad.out hB)
    clear hB ht gr hold f4
    go_wp2_with (fail)
    refine bodyPost_ret (res_dtake (z4.put 0 (.slice none 0 0)) rfl rfl) rfl ?_
    exact hbad.out _ (put_below b4 (by omega) _ _)
  | true =>
    have hk := headB_K ht
    obtain ⟨rfl, rfl, hn0, hd0⟩ := gr.t ht
    obtain ⟨kk, rfl⟩ := Int.eq_ofNat_of_zero_le (show 0 ≤ K by omega)
    have hk1 : 1 ≤ kk := by omega
    have hk4 : kk ≤ 4 := by omega
    have hll : l.length = (hdS h).length := by have := congrArg List.length hn0; simpa using this
    have hn1 := hk.2.1
    have hn16 := hk.2.2
    rw [← hll] at hn1 hn16
    have hbz := gr.z
    have hdk : ∀ s ∈ l, s.d.length = kk := fun s hs => by have := hd0 s hs; omega
    have hzl : (allT l).length = l.length * kk := allT_len hdk
    have hmul : (l.length : Int) * (kk : Int) = ((l.length * kk : Nat) : Int) := by simp
    have hmx : l.length * kk ≤ 64 := by have := Nat.mul_le_mul hn16 hk4; omega
    have hwr : IntKind.i64.wrap ((l.length : Int) * (kk : Int)) = ((l.length * kk : Nat) : Int) := by rw [hmul]; exact IntWalk.i64_in _ (by omega)
    replace hmul := Lib.hid hmul
    clear hk hd0 gr
    by_cases hlen : b.length = l.length * kk
    · have heq : (((b.length : Int)) != ((l.length * kk : Nat) : Int)) = false := by rw [hlen, bne_self_eq_false]
      obtain ⟨bb, off, rfl⟩ : ∃ bb off, va = some ⟨bb, off, none⟩ := by
        rcases hb with ⟨_, h0⟩ | ⟨bb, off, cap, h1, _⟩
        · have : b.length = 0 := by have := congrArg List.length h0; simpa using this
          have : 1 * 1 ≤ l.length * kk := Nat.mul_le_mul hn1 hk1
          omega
        · exact ⟨bb, off, by simp at h1; exact h1.1⟩
      obtain ⟨y, hy, hyx, rfl⟩ : ∃ y, w1.heap.size ≤ y ∧ y < x ∧ ua = some ⟨y, 0, none⟩ := by
        obtain ⟨y, c', h1, h2, h3⟩ := f4.o.form (by omega)
        simp at h1
        exact ⟨y, h2, by have := hold _ (.inl rfl) y (by rw [h1.1]; rfl); omega, h1.1⟩
      have hI0 : Hid (UIn w p x y uc l.length kk M B h b (allT l) l 0 (w2.alloc (.cells #[.int .i64 (hdQ h), .slice (some ⟨y, 0, none⟩) l.length uc] 26)) l) := Lib.hid ⟨g4, z4, X, f4.mono (by omega), ⟨hn0, hdk, rfl, by simp⟩, b4⟩
      have hinn : Hid (∀ s ∈ l, ∀ j, s.v.ownBlock = some j → j < x) := Lib.hid fun s hs j hj => by rw [← hx]; exact (hold _ (.inr ⟨s, hs, rfl⟩) j hj).2
      have hbK : Hid (Reads w (.slice (some ⟨bb, off, none⟩) b.length vc) (b.map .string)) := Lib.hid hb
      have hzl' : (allT l).length = b.length := by omega
      generalize hZ : allT l = Z at *
      generalize hN : l.length = n at *
      generalize hnk : n * kk = nk at *
      replace hnk := Lib.hid hnk
      replace hlen := Lib.hid hlen
      replace hll := Lib.hid hll
      have hlN := Lib.hid hN
      clear z4 g4 X b4 f4 hb4 hb hold hn0 hbz hdk hzl hZ hN
      go_wp2_with (fail)
      clear hx
      generalize w2.alloc (.cells #[.int .i64 (hdQ h), .slice (some ⟨y, 0, none⟩) n uc] 26) = w5 at *
      clear e0 e1 e2 e3 e4 e5 e6 hwr heq
      go_loopw [11] (fun t wr => ∃ k : Nat, k ≤ b.length ∧ t = .int .i64 (k : Int) ∧ (∀ i (hi : i < b.length), i < k → b[i].size = 120) ∧ ∃ l', UIn w p x y uc n kk M B h b Z l k wr l') (fun t _ => b.length - (intOf t).toNat)
      case atStart => exact ⟨0, by omega, rfl, fun i _ h => absurd h (Nat.not_lt_zero _), _, hI0.out⟩
      case round =>
        obtain ⟨k, hk, rfl, hdone, l', hI⟩ := hrel
        rename World => wr
        clear hI0
        obtain ⟨g0, z0, o0, f0, fk, b0⟩ := hI
        have hl : l'.length = n := by have := congrArg List.length fk.v; rw [← hlN.out]; simpa using this
        have hdone' := Lib.hid hdone
        clear hdone
        by_cases hlt : k < b.length
        · have y1 : (k : Int) < (b.length : Int) := by omega
          have hr2 := hbK.out.below (by rw [hp.out]; exact b0)
          have cb : wr.cell? ⟨bb, off + k, none⟩ = some (.string b[k]) := by
            rcases hr2 with ⟨_, h0⟩ | ⟨b', off', cap', h1, h2, h3⟩
            · have : b.length = 0 := by have := congrArg List.length h0; simpa using this
              omega
            · simp only [Value.slice.injEq, Option.some.injEq, Addr.mk.injEq] at h1
              obtain ⟨⟨rfl, rfl, _⟩, _, rfl⟩ := h1
              rw [h3 k (by rw [List.length_map]; exact hlt)]
              simp [List.getD_eq_getElem?_getD, List.getElem?_eq_getElem hlt]
          clear hr2
          have hsz : b[k].size ≤ 140737488355328 := hbz0 _ (List.getElem_mem hlt)
          by_cases h120 : b[k].size = 120
          · have hs120 : (((b[k].size : Nat) : Int) != 120) = false := by rw [h120]; rfl
            have hdone2 : Hid (∀ i (hi : i < b.length), i < k + 1 → b[i].size = 120) := Lib.hid fun i hi hik => by
              by_cases e : i = k
              · subst i; exact h120
              · exact hdone'.out i hi (by omega)
            replace h120 := Lib.hid h120
            have hkk0 : 0 < kk := by omega
            have hak : k / kk < n := by
              rw [Nat.div_lt_iff_lt_mul hkk0]; have := hnk.out; have := hlen.out; omega
            have hbk : k % kk < kk := Nat.mod_lt _ hkk0
            have hdm : k / kk * kk + k % kk = k := by rw [Nat.mul_comm]; exact Nat.div_add_mod k kk
            obtain ⟨A, hA⟩ : ∃ A, k / kk = A := ⟨_, rfl⟩
            obtain ⟨C, hC⟩ : ∃ C, k % kk = C := ⟨_, rfl⟩
            have hAk : A ≤ k := by rw [← hA]; exact Nat.div_le_self k kk
            have hq1 : (k : Int) / (kk : Int) = (A : Int) := by rw [← hA]; rfl
            have hq2 : (k : Int) % (kk : Int) = (C : Int) := by rw [← hC]; rfl
            have hq3 : ¬ kk = 0 := by omega
            rw [hA] at hak hdm
            rw [hC] at hbk hdm
            replace hA := Lib.hid hA
            replace hC := Lib.hid hC
            have hAl : A < l'.length := by omega
            have hin : l'[A] ∈ l' := List.getElem_mem hAl
            have hdl := fk.d _ hin
            obtain ⟨bl, c', hv, hbl1, hbl2⟩ := (f0.d _ hin).form (by rw [List.length_map]; omega)
            rw [List.length_map, hdl] at hv
            have hblx : bl < x := by
              have hAl2 : A < l.length := by rw [hlN.out]; omega
              have e := congrArg (fun q => q[A]?) fk.v
              simp only [List.getElem?_map, List.getElem?_eq_getElem hAl, List.getElem?_eq_getElem hAl2, Option.map_some, Option.some.injEq] at e
              exact hinn.out _ (List.getElem_mem hAl2) bl (by rw [← e, hv]; rfl)
            have hGk := Lib.hid (fk.set (by omega) (by omega) hAl hbk hdm)
            have hF := Lib.hid (f0.setT hAl hv C b[k])
            have own := f0.d _ hin
            rw [hv] at own
            have cy : wr.cell? ⟨y, A * 2 + 1, none⟩ = some (.slice (some ⟨bl, 0, none⟩) kk c') := by
              have := f0.o.cell (i := A) hAl (j := 1) (by decide)
              rw [show (stE.f l'[A])[1]? = some (cell1 l'[A].v) from rfl, hv, cell1_slice] at this
              exact this
            have ct := own.cell (i := C) (by rw [List.length_map, hdl]; exact hbk)
            have cf := own.frozen C
            have e1 := o0.c1
            have e2 := g0.c0
            replace hdm := Lib.hid hdm
            clear own hin hdl
            go_wp2_with (fail)
            go_region
            all_goals
              go_wp2_with (fail)
              go_roundw
              case rel =>
                have hz1 := z0.lt
                have hg1 := g0.lt
                have ho1 := o0.lt
                refine ⟨k + 1, by omega, by go_num, hdone2.out, l'.set A { l'[A] with d := l'[A].d.set C b[k] }, ?_⟩
                refine ⟨g0.heap (Below.heap_setCell _ _ _ _ (by show p ≠ bl; omega)) (by simp), z0.heap (Below.heap_setCell _ _ _ _ (by show p + 1 ≠ bl; omega)) (by simp), o0.heap (Below.heap_setCell _ _ _ _ (by show x ≠ bl; omega)) (by simp), hF.out.heap fun _ _ _ => rfl, hGk.out, ?_⟩
                exact (b0.setCell (p := ⟨bl, C, none⟩) (by show p ≤ bl; omega) _).trans ⟨rfl, rfl, rfl, Nat.le_refl _, fun _ _ => rfl⟩
              case measure => simp [intOf]; omega
          · have hs120 : (((b[k].size : Nat) : Int) != 120) = true := by rw [bne_iff_ne]; omega
            have hB : takeB (kk : Int) M B h b = false := by
              have : txtB b = false := by
                rw [Bool.eq_false_iff]
                intro e
                exact h120 ((txtB_iff b).1 e _ (List.getElem_mem hlt))
              unfold takeB; rw [this, Bool.false_and, Bool.and_false, Bool.and_false]
            replace hbad := Lib.hid (hbad.out hB)
            have e0 := z0.c0
            have e1 := z0.c1
            have e2 := z0.f0
            have e3 := z0.f1
            have hzl := z0.lt
            clear hB ht h120 fk
            go_wp2_with (fail)
            refine bodyPost_ret (res_dtake (z0.put 0 (.slice none 0 0)) rfl rfl) rfl ?_
            exact hbad.out _ (put_below b0 (by omega) _ _)
        · obtain rfl : k = b.length := by omega
          have y1 : ¬ ((b.length : Int) < (b.length : Int)) := by omega
          have hr2 := hbK.out.below (by rw [hp.out]; exact b0)
          have h120 : ∀ t ∈ b, t.size = 120 := fun t ht' => by
            obtain ⟨i, hi, rfl⟩ := List.mem_iff_getElem.1 ht'
            exact hdone'.out i hi hi
          have htb : txtB b = true := (txtB_iff b).2 h120
          have hall : allT l' = b := by
            rw [fk.a, List.take_length, ← hzl', List.drop_length, List.append_nil]
          have hB : Hid (takeB (kk : Int) M B h b = decide (((sumT b : Nat) : Int) = hdC h)) := Lib.hid (by
            unfold takeB
            have : (b.length : Int) = ((hdS h).length : Int) * (kk : Int) := by rw [← hll.out, hmul.out, hlen.out]
            rw [ht, decide_eq_true this, htb]; rfl)
          have hgo : Hid (takeB (kk : Int) M B h b = true → ∀ w', SFam w' (p + 2) (.slice (some ⟨y, 0, none⟩) n uc) l' → Below p w w' → GivesTk w (kk : Int) M B h b (.returned (.tuple #[.agg #[.int .i64 (hdQ h), .slice (some ⟨y, 0, none⟩) n uc], .int .i64 0])) w') := Lib.hid fun hB w' hf hb =>
            GivesTk.ok hB (hf.mono (by rw [hp.out]; omega)) (take_l fk.n (fun s hs => by rw [fk.d s hs]; simp) hall) (by rw [hp.out]; exact hb)
          have cS := fun W (hw : Reads W (.slice (some ⟨bb, off, none⟩) b.length vc) (b.map .string)) => rsum11_any (.slice (some ⟨bb, off, none⟩) b.length vc) b W hw (by omega) (fun t ht' => by rw [h120 t ht']; omega)
          clear h120 htb hall fk hdone' ht hbz0
          generalize sumT b = sb at *
          go_wp2_with (fail)
          refine (cS _ hr2).mono ?_
          rintro e w7 ⟨rfl, b7⟩
          have z7 := z0.below b7 z0.lt
          have o7 := o0.below b7 o0.lt
          have f7 := f0.after b7
          have hz1 := z7.lt
          have bb7 := b0.trans (b7.mono (by have := g0.lt; omega))
          clear g0 z0 o0 f0 b0 b7 cS hr2
          have e0 := z7.c0
          have e1 := z7.c1
          have e2 := z7.f0
          have e3 := z7.f1
          have e4 := o7.c0
          have e5 := o7.c1
          by_cases hs' : ((sb : Nat) : Int) = hdC h
          · have ne : (((sb : Nat) : Int) != hdC h) = false := by rw [hs', bne_self_eq_false]
            have hB' := hB.out
            rw [decide_eq_true hs'] at hB'
            replace hgo := Lib.hid (hgo.out hB')
            clear hs' hB hB'
            go_wp2_with (fail)
            refine bodyPost_ret (res_dtake (z7.put (hdQ h) (.slice (some ⟨y, 0, none⟩) n uc)) rfl rfl) rfl ?_
            exact hgo.out _ (f7.heap fun j h1 h2 => put_heap _ _ _ _ (by omega)) (put_below bb7 (by omega) _ _)
          · have ne : (((sb : Nat) : Int) != hdC h) = true := by rw [bne_iff_ne]; exact hs'
            have hB' := hB.out
            rw [decide_eq_false hs'] at hB'
            replace hbad := Lib.hid (hbad.out hB')
            clear hs' hB hB'
            go_wp2_with (fail)
            refine bodyPost_ret (res_dtake (z7.put 0 (.slice none 0 0)) rfl rfl) rfl ?_
            exact hbad.out _ (put_below bb7 (by omega) _ _)
    · have hB : takeB (kk : Int) M B h b = false := by
        unfold takeB; rw [ht, ← hll, hmul.out, decide_eq_false (by omega)]; rfl
      replace hbad := Lib.hid (hbad.out hB)
      have hne : (((b.length : Int)) != ((l.length * kk : Nat) : Int)) = true := by rw [bne_iff_ne]; omega
      clear hB ht f4 hlen hold hn0 hbz hdk hzl hll
      generalize l.length * kk = nk at *
      go_wp2_with (fail)
      refine bodyPost_ret (res_dtake (z4.put 0 (.slice none 0 0)) rfl rfl) rfl ?_
      exact hbad.out _ (put_below b4 (by omega) _ _)
end
end Go.Proofs.YtdbjfofnkijmoaaDoor
