/- dir's laws: Fit. -/
import Derived.Test.YtfmgoamgcjipkaaDirFit
namespace Go.Proofs.Ytfmgoamgcjipkaa
open Go.RowKit
set_option linter.unusedVariables false
set_option linter.unusedSimpArgs false
open Dr

/-- The inner loop's memory. -/
structure FSt (W0 : World) (B G : Nat) (y : Vol) (cb c : Nat) (x : Vol) (nx : Value) (N : List Vol) (W : World) : Prop where
  own : OwnE volE W B 24 nx N
  e0 : W.cell? ⟨cb, c, none⟩ = some (.string x.n)
  e1 : W.cell? ⟨cb, c + 1, none⟩ = some (.int .i64 x.s)
  e2 : W.cell? ⟨cb, c + 2, none⟩ = some (.int .i64 x.r)
  k0 : W.cell? ⟨G, 0, none⟩ = some (.string y.n)
  k1 : W.cell? ⟨G, 1, none⟩ = some (.int .i64 y.s)
  k2 : W.cell? ⟨G, 2, none⟩ = some (.int .i64 y.r)
  b : Below B W0 W
  hcb : cb < B
  hG : G < B
  hB : B ≤ W.heap.size
theorem VolAt.set1 {w : World} {b : Nat} {x : Vol} (h : VolAt w b x) (s : Int) : VolAt (w.setCell ⟨b, 1, none⟩ (.int .i64 s)) b ⟨x.n, s, x.r⟩ :=
  ⟨by rw [World.cell?_setCell_other w _ _ _ (by simp)]; exact h.c0, World.cell?_setCell_same' w _ _ (by rw [h.c1]; rfl), by rw [World.cell?_setCell_other w _ _ _ (by simp)]; exact h.c2, by simpa using h.lt⟩
theorem VolAt.set2 {w : World} {b : Nat} {x : Vol} (h : VolAt w b x) (r : Int) : VolAt (w.setCell ⟨b, 2, none⟩ (.int .i64 r)) b ⟨x.n, x.s, r⟩ :=
  ⟨by rw [World.cell?_setCell_other w _ _ _ (by simp)]; exact h.c0, by rw [World.cell?_setCell_other w _ _ _ (by simp)]; exact h.c1, World.cell?_setCell_same' w _ _ (by rw [h.c2]; rfl), by simpa using h.lt⟩
theorem FSt.drewN {W0 W : World} {B G cb c : Nat} {y x : Vol} {nx : Value} {N : List Vol} (h : FSt W0 B G y cb c x nx N W) (n : Nat) : FSt W0 B G y cb c x nx N (W.drewN n) :=
  ⟨h.own.drewN n, h.e0, h.e1, h.e2, h.k0, h.k1, h.k2, h.b.trans ((drew_below W n).mono h.hB), h.hcb, h.hG, h.hB⟩
theorem FSt.push {W0 W : World} {B G cb c : Nat} {y x : Vol} {nx : Value} {N : List Vol} (h : FSt W0 B G y cb c x nx N W) (hl : N.length ≤ 990) (z : Vol) :
    ∃ v' w', (Builtin.append_ #[22, 22] 22 #[nx, .slice (some ⟨W.heap.size, 0, none⟩) 1 1]).run Try.prog (W.alloc (.cells #[.string z.n, .int .i64 z.s, .int .i64 z.r] 24)) = .ok v' w' ∧ FSt W0 B G y cb c x v' (N ++ [z]) w' := by
  obtain ⟨v', w', h1, h2, h3⟩ := h.own.pushV hl h.hB z
  have g : ∀ b o, b < B → w'.cell? ⟨b, o, none⟩ = W.cell? ⟨b, o, none⟩ := fun b o hb => h3.cell (p := ⟨b, o, none⟩) hb
  exact ⟨v', w', h1, h2, by rw [g _ _ h.hcb]; exact h.e0, by rw [g _ _ h.hcb]; exact h.e1, by rw [g _ _ h.hcb]; exact h.e2, by rw [g _ _ h.hG]; exact h.k0, by rw [g _ _ h.hG]; exact h.k1, by rw [g _ _ h.hG]; exact h.k2, h.b.trans h3, h.hcb, h.hG, Nat.le_trans h.hB h3.size⟩
set_option maxRecDepth 100000 in
set_option maxHeartbeats 32000000 in
theorem fit_any (vr : Value) (raw : List Vol) (vn : Value) (names : List Int) (w : World) (hR : ReadsE volE w vr raw) (hI : ∀ x ∈ raw, In64 x.s ∧ In64 x.r) (hN : Reads w vn (names.map (.int .i64)))
    (hn : ∀ i, i < names.length → -9223372036854775808 ≤ names.getD i 0 ∧ names.getD i 0 ≤ 9223372036854775807) (hl : raw.length ≤ 140737488351232) (hnl : names.length ≤ 140737488351232) :
    Calls Try.prog 26 #[vr, vn] w (FitsW w) := by
  obtain ⟨ar, cr, rfl, clr⟩ := items3 hR
  obtain ⟨an, cn, rfl, cln⟩ := hN.nums
  have hfin : ∀ (L : List Vol), Rises L → (∀ x ∈ L, volB 200 x = true) → L.length ≤ 8 → rightB 200 L = true := fun L h1 h2 h3 => (rightB_iff 200 L).2 ⟨⟨by decide, by decide, h3⟩, h2, h1⟩
  have hI' : ∀ i, i < raw.length → In64 (at_ raw i).s ∧ In64 (at_ raw i).r := fun i hi => by rw [at_get hi]; exact hI _ (List.getElem_mem hi)
  clear hR hN hI
  go_enter Try.func26, Try.ntmps26
  go_wp2_with (fail)
  go_loopw [5, 6] (fun o i wo => ∃ (k : Nat) (L : List Vol), k ≤ names.length ∧ i = .int .i64 (k : Int) ∧ OwnE volE wo w.heap.size 24 o L ∧ Hid (Rises L) ∧ Hid (∀ x ∈ L, volB 200 x = true) ∧ L.length ≤ 8 ∧ Below w.heap.size w wo) (fun _ i _ => names.length - (intOf i).toNat)
  case atStart => exact ⟨0, [], by omega, rfl, OwnE.nil _ _ _ _, Lib.hid List.Pairwise.nil, Lib.hid (fun x h => by cases h), by simp, Below.refl _ _⟩
  case round =>
    obtain ⟨k, L, hk, rfl, ho, hLr, hLv, hL8, hB⟩ := hrel
    obtain ⟨o, rfl⟩ : ∃ v, v = u5 := ⟨_, rfl⟩
    rename World => wo
    obtain ⟨ao, co, rfl, clo⟩ := items3 ho.reads
    by_cases hkn : k < names.length
    rotate_left
    · have x1 : ¬ ((k : Int) < (names.length : Int)) := by omega
      go_wp2_with (fail)
      go_ret
      exact ⟨L, _, rfl, ho, hB, hfin L hLr.out hLv.out hL8⟩
    have x1 : (k : Int) < (names.length : Int) := by omega
    by_cases hl7 : L.length < 8
    rotate_left
    · have x2 : ¬ ((L.length : Int) < 8) := by omega
      go_wp2_with (fail)
      go_ret
      exact ⟨L, _, rfl, ho, hB, hfin L hLr.out hLv.out hL8⟩
    have x2 : (L.length : Int) < 8 := by omega
    obtain ⟨nb, no, rfl, hnb, hnc⟩ := cln k hkn
    obtain ⟨t, ht, cN⟩ := name_any (names.getD k 0) (hn k hkn).1 (hn k hkn).2
    have hnc' : wo.cell? ⟨nb, no + k, none⟩ = some (.int .i64 (names.getD k 0)) := by rw [hB.cell (p := ⟨nb, no + k, none⟩) hnb]; exact hnc
    generalize names.getD k 0 = nk at *
    clear hnc hfin
    go_wp2_with (fail)
    refine (cN _).mono ?_
    rintro e wn ⟨rfl, bn⟩
    have hBn := below_c hB bn
    have clo' := fun i hi => clo i hi
    have hBon : Below wo.heap.size wo wn := bn
    have hBA : Below w.heap.size w (wn.alloc (.cells #[.string t, .int .i64 0, .int .i64 0] 24)) := hBn.alloc hBn.size _
    have hva := VolAt.made wn ⟨t, 0, 0⟩ 24
    have hsn := hBn.size
    by_cases hkr : k < raw.length
    rotate_left
    · have x3 : ¬ ((k : Int) < (raw.length : Int)) := by omega
      have hBo : Below w.heap.size w (wn.alloc (.cells #[.string t, .int .i64 0, .int .i64 0] 24)) := hBA
      have hBow : Below wo.heap.size wo (wn.alloc (.cells #[.string t, .int .i64 0, .int .i64 0] 24)) := (hBon.alloc hBon.size _)
      have vb2 : VolAt (wn.alloc (.cells #[.string t, .int .i64 0, .int .i64 0] 24)) wn.heap.size (⟨t, 0, 0⟩ : Vol) := hva
      have hyv : Hid (volB 200 (⟨t, 0, 0⟩ : Vol) = true) := Lib.hid (volB_of t ht 0 0 (by decide) (.inl rfl))
      obtain ⟨y, hyy⟩ : ∃ y : Vol, y = (⟨t, 0, 0⟩ : Vol) := ⟨_, rfl⟩
      rw [← hyy] at vb2 hyv
      clear hyy
      go_wp2_with (fail)
      obtain ⟨W2, hW2⟩ : ∃ W, W = (wn.alloc (.cells #[.string t, .int .i64 0, .int .i64 0] 24)) := ⟨_, rfl⟩
      rw [← hW2] at hBo hBow vb2 ⊢
      clear hW2
      obtain ⟨G, hGG⟩ : ∃ G, wn.heap.size = G := ⟨_, rfl⟩
      try rw [hGG]
      rw [hGG] at vb2
      go_loopw [8, 9, 10] (fun nx pt j W => ∃ (q : Nat) (N : List Vol) (tt : Bool), q ≤ L.length ∧ j = .int .i64 (q : Int) ∧ pt = .bool tt ∧ OwnE volE W W2.heap.size 24 nx N ∧ Hid (FInv L y N tt q) ∧ Below W2.heap.size W2 W) (fun _ _ j _ => L.length - (intOf j).toNat)
      case atStart => exact ⟨0, [], false, by omega, rfl, rfl, OwnE.nil _ _ _ _, Lib.hid (FInv.start L y), Below.refl _ _⟩
      case round =>
        obtain ⟨q, N, tt, hq, rfl, rfl, ho2, hF, hBr⟩ := hrel
        obtain ⟨nx, rfl⟩ : ∃ v, v = u8 := ⟨_, rfl⟩
        rename World => wr
        have hNl : N.length ≤ 20 := by have := hF.out.len; split at this <;> omega
        by_cases hql : q < L.length
        · have y1 : (q : Int) < (L.length : Int) := by omega
          obtain ⟨cb, co, rfl, hcb, hcl⟩ := clo q hql
          have st : FSt W2 W2.heap.size G y cb (co + q * 3) (at_ L q) nx N wr := by
            obtain ⟨c0, c1, c2⟩ := hcl wr (hBow.trans (hBr.mono hBow.size))
            have vv := vb2.below hBr vb2.lt
            exact ⟨ho2, c0, c1, c2, vv.c0, vv.c1, vv.c2, hBr, Nat.lt_of_lt_of_le hcb hBow.size, vb2.lt, hBr.size⟩
          have hput := fun (h : tt = false) => FInv.put (L := L) (y := y) (N := N) (k := q) (h ▸ hF.out) hLr.out hLv.out hyv.out hql
          have hon := FInv.on (t := tt) hF.out hLr.out hLv.out hql
          have hskip := hF.out.skip
          have hne := toL_eq (at_ L q).n y.n
          have hnlt := fun (h : lt (at_ L q).n y.n = true) => lt_ne h
          generalize at_ L q = x at *
          clear ho2 hBr hF hcl
          obtain ⟨e0, e1, e2, k0, k1, k2⟩ : _ ∧ _ ∧ _ ∧ _ ∧ _ ∧ _ := ⟨st.e0, st.e1, st.e2, st.k0, st.k1, st.k2⟩
          cases tt with
          | false =>
            cases hlt : lt x.n y.n with
            | true =>
              have m1 : Op.bytesLess x.n.toList y.n.toList = true := hlt
              rw [decide_eq_false (hnlt hlt)] at hne
              have hf := Lib.hid (hon fun _ => hlt)
              clear hput hon hskip hnlt hlt
              go_wp2_with (fail)
              go_quiet (fail)
              replace st := st.drewN nq
              clear e0 e1 e2 k0 k1 k2
              generalize wr.drewN nq = wq at *
              obtain ⟨e0, e1, e2, k0, k1, k2⟩ : _ ∧ _ ∧ _ ∧ _ ∧ _ ∧ _ := ⟨st.e0, st.e1, st.e2, st.k0, st.k1, st.k2⟩
              go_wp2_with (fail)
              go_quiet (fail)
              replace st := st.drewN nq
              clear e0 e1 e2 k0 k1 k2
              generalize wq.drewN nq = wz at *
              obtain ⟨e0, e1, e2, k0, k1, k2⟩ : _ ∧ _ ∧ _ ∧ _ ∧ _ ∧ _ := ⟨st.e0, st.e1, st.e2, st.k0, st.k1, st.k2⟩
              obtain ⟨v2, w6, hap2, st2⟩ := st.push (by first | omega | (simp; omega)) x
              have o2 := Lib.hid st2.own
              have b2 := st2.b
              clear st st2 k0 k1 k2
              go_wp2_with (at_builtin; refine wpList_append_run hap2 _ _ rfl rfl rfl rfl rfl ?_)
              go_roundw
              case rel => exact ⟨q + 1, _, _, by omega, by go_num, rfl, o2.out, Lib.hid hf.out, b2⟩
              case measure => simp [intOf]; omega
            | false =>
              have m1 : Op.bytesLess x.n.toList y.n.toList = false := hlt
              by_cases he : x.n = y.n
              · rw [decide_eq_true he] at hne
                have hf := Lib.hid ((hput rfl hlt).2 he)
                clear hput hon hskip hnlt hlt he
                go_wp2_with (fail)
                go_quiet (fail)
                replace st := st.drewN nq
                clear e0 e1 e2 k0 k1 k2
                generalize wr.drewN nq = wq at *
                obtain ⟨e0, e1, e2, k0, k1, k2⟩ : _ ∧ _ ∧ _ ∧ _ ∧ _ ∧ _ := ⟨st.e0, st.e1, st.e2, st.k0, st.k1, st.k2⟩
                obtain ⟨v1, w5, hap1, st1⟩ := st.push (by omega) y
                have s5 := st1.hB
                go_wp2_with (at_builtin; refine wpList_append_run hap1 _ _ rfl rfl rfl rfl rfl ?_)
                clear st e0 e1 e2 k0 k1 k2
                obtain ⟨e0, e1, e2, k0, k1, k2⟩ : _ ∧ _ ∧ _ ∧ _ ∧ _ ∧ _ := ⟨st1.e0, st1.e1, st1.e2, st1.k0, st1.k1, st1.k2⟩
                go_quiet (fail)
                have st := st1.drewN nq
                clear hap1 st1 e0 e1 e2 k0 k1 k2
                generalize w5.drewN nq = wz at *
                obtain ⟨e0, e1, e2, k0, k1, k2⟩ : _ ∧ _ ∧ _ ∧ _ ∧ _ ∧ _ := ⟨st.e0, st.e1, st.e2, st.k0, st.k1, st.k2⟩
                have o2 := Lib.hid st.own
                have b2 := st.b
                clear st
                go_wp2_with (fail)
                go_roundw
                case rel => exact ⟨q + 1, _, _, by omega, by go_num, rfl, o2.out, Lib.hid hf.out, b2⟩
                case measure => simp [intOf]; omega
              · rw [decide_eq_false he] at hne
                have hf := Lib.hid ((hput rfl hlt).1 he)
                clear hput hon hskip hnlt hlt he
                go_wp2_with (fail)
                go_quiet (fail)
                replace st := st.drewN nq
                clear e0 e1 e2 k0 k1 k2
                generalize wr.drewN nq = wq at *
                obtain ⟨e0, e1, e2, k0, k1, k2⟩ : _ ∧ _ ∧ _ ∧ _ ∧ _ ∧ _ := ⟨st.e0, st.e1, st.e2, st.k0, st.k1, st.k2⟩
                obtain ⟨v1, w5, hap1, st1⟩ := st.push (by omega) y
                have s5 := st1.hB
                go_wp2_with (at_builtin; refine wpList_append_run hap1 _ _ rfl rfl rfl rfl rfl ?_)
                clear st e0 e1 e2 k0 k1 k2
                obtain ⟨e0, e1, e2, k0, k1, k2⟩ : _ ∧ _ ∧ _ ∧ _ ∧ _ ∧ _ := ⟨st1.e0, st1.e1, st1.e2, st1.k0, st1.k1, st1.k2⟩
                go_quiet (fail)
                have st := st1.drewN nq
                clear hap1 st1 e0 e1 e2 k0 k1 k2
                generalize w5.drewN nq = wz at *
                obtain ⟨e0, e1, e2, k0, k1, k2⟩ : _ ∧ _ ∧ _ ∧ _ ∧ _ ∧ _ := ⟨st.e0, st.e1, st.e2, st.k0, st.k1, st.k2⟩
                obtain ⟨v2, w6, hap2, st2⟩ := st.push (by first | omega | (simp; omega)) x
                have o2 := Lib.hid st2.own
                have b2 := st2.b
                clear st st2 k0 k1 k2
                go_wp2_with (at_builtin; refine wpList_append_run hap2 _ _ rfl rfl rfl rfl rfl ?_)
                go_roundw
                case rel => exact ⟨q + 1, _, _, by omega, by go_num, rfl, o2.out, Lib.hid hf.out, b2⟩
                case measure => simp [intOf]; omega
          | true =>
            by_cases he : x.n = y.n
            · rw [decide_eq_true he] at hne
              have hf := Lib.hid (hskip rfl)
              clear hput hon hskip hnlt he
              go_wp2_with (fail)
              go_quiet (fail)
              replace st := st.drewN nq
              clear e0 e1 e2 k0 k1 k2
              generalize wr.drewN nq = wq at *
              obtain ⟨e0, e1, e2, k0, k1, k2⟩ : _ ∧ _ ∧ _ ∧ _ ∧ _ ∧ _ := ⟨st.e0, st.e1, st.e2, st.k0, st.k1, st.k2⟩
              go_wp2_with (fail)
              go_quiet (fail)
              replace st := st.drewN nq
              clear e0 e1 e2 k0 k1 k2
              generalize wq.drewN nq = wz at *
              obtain ⟨e0, e1, e2, k0, k1, k2⟩ : _ ∧ _ ∧ _ ∧ _ ∧ _ ∧ _ := ⟨st.e0, st.e1, st.e2, st.k0, st.k1, st.k2⟩
              have o2 := Lib.hid st.own
              have b2 := st.b
              clear st
              go_wp2_with (fail)
              go_roundw
              case rel => exact ⟨q + 1, _, _, by omega, by go_num, rfl, o2.out, Lib.hid hf.out, b2⟩
              case measure => simp [intOf]; omega
            · rw [decide_eq_false he] at hne
              have hf := Lib.hid (hon fun h => by cases h)
              clear hput hon hskip hnlt he
              go_wp2_with (fail)
              go_quiet (fail)
              replace st := st.drewN nq
              clear e0 e1 e2 k0 k1 k2
              generalize wr.drewN nq = wq at *
              obtain ⟨e0, e1, e2, k0, k1, k2⟩ : _ ∧ _ ∧ _ ∧ _ ∧ _ ∧ _ := ⟨st.e0, st.e1, st.e2, st.k0, st.k1, st.k2⟩
              go_wp2_with (fail)
              go_quiet (fail)
              replace st := st.drewN nq
              clear e0 e1 e2 k0 k1 k2
              generalize wq.drewN nq = wz at *
              obtain ⟨e0, e1, e2, k0, k1, k2⟩ : _ ∧ _ ∧ _ ∧ _ ∧ _ ∧ _ := ⟨st.e0, st.e1, st.e2, st.k0, st.k1, st.k2⟩
              obtain ⟨v2, w6, hap2, st2⟩ := st.push (by first | omega | (simp; omega)) x
              have o2 := Lib.hid st2.own
              have b2 := st2.b
              clear st st2 k0 k1 k2
              go_wp2_with (at_builtin; refine wpList_append_run hap2 _ _ rfl rfl rfl rfl rfl ?_)
              go_roundw
              case rel => exact ⟨q + 1, _, _, by omega, by go_num, rfl, o2.out, Lib.hid hf.out, b2⟩
              case measure => simp [intOf]; omega
        · have y1 : ¬ ((q : Int) < (L.length : Int)) := by omega
          obtain rfl : q = L.length := by omega
          have vv := vb2.below hBr vb2.lt
          cases tt with
          | false =>
            have hfin := Lib.hid (hF.out.fin hyv.out)
            obtain ⟨v', w', hap, o', b'⟩ := ho2.pushV (by omega) hBr.size y
            have hBB := hBo.trans ((hBr.trans b').mono hBo.size)
            obtain ⟨k0, k1, k2, _⟩ := vv
            have oo := o'.mono (show w.heap.size ≤ W2.heap.size from hBo.size)
            clear o' b' hF ho2
            go_wp2_with (at_builtin; refine wpList_append_run hap _ _ rfl rfl rfl rfl rfl ?_)
            go_roundw
            case rel => exact ⟨k + 1, N ++ [y], by omega, by go_num, oo, Lib.hid hfin.out.1, Lib.hid hfin.out.2.1, by have := hfin.out.2.2; omega, hBB⟩
            case measure => simp [intOf]; omega
          | true =>
            have hBB := hBo.trans (hBr.mono hBo.size)
            have oo := ho2.mono (show w.heap.size ≤ W2.heap.size from hBo.size)
            have hl8 : N.length ≤ 8 := by have := hF.out.len; simp at this; omega
            go_wp2_with (fail)
            go_roundw
            case rel => exact ⟨k + 1, N, by omega, by go_num, oo, Lib.hid hF.out.r, Lib.hid hF.out.v, hl8, hBB⟩
            case measure => simp [intOf]; omega
    have x3 : (k : Int) < (raw.length : Int) := by omega
    obtain ⟨rb, ro, rfl, hrb, hrc⟩ := clr k hkr
    obtain ⟨d0, d1, d2⟩ := hrc _ hBA
    obtain ⟨i1, i2⟩ := hI' k hkr
    obtain ⟨p1, hp1, _, c1⟩ := pick_nat (at_ raw k).s 4097 i1.1 i1.2 (by decide) (by decide)
    obtain ⟨p2, hp2, _, c2⟩ := pick_nat (at_ raw k).r 198 i2.1 i2.2 (by decide) (by decide)
    have hBS1 : Below w.heap.size w (wn.alloc (.cells #[.string t, .int .i64 (p1 : Int), .int .i64 0] 24)) := hBn.alloc hBn.size _
    have hBS2 : Below w.heap.size w (wn.alloc (.cells #[.string t, .int .i64 (p1 : Int), .int .i64 (p2 : Int)] 24)) := hBn.alloc hBn.size _
    have hBo1 : Below wo.heap.size wo (wn.alloc (.cells #[.string t, .int .i64 (p1 : Int), .int .i64 0] 24)) := hBon.alloc hBon.size _
    have hBo2 : Below wo.heap.size wo (wn.alloc (.cells #[.string t, .int .i64 (p1 : Int), .int .i64 (p2 : Int)] 24)) := hBon.alloc hBon.size _
    have va2 := VolAt.made wn ⟨t, (p1 : Int), (p2 : Int)⟩ 24
    obtain ⟨_, _, d2x⟩ := hrc _ hBS1
    clear hI' hrc
    by_cases hz : p2 = 0
    · have z1 : decide ((0 : Int) < (p2 : Int)) = false := by rw [decide_eq_false_iff_not]; omega
      have z1n : decide (0 < p2) = false := by rw [decide_eq_false_iff_not]; omega
      have hzH := Lib.hid hz
      clear hz
      have hBo : Below w.heap.size w (wn.alloc (.cells #[.string t, .int .i64 (p1 : Int), .int .i64 (p2 : Int)] 24)) := hBS2
      have hBow : Below wo.heap.size wo (wn.alloc (.cells #[.string t, .int .i64 (p1 : Int), .int .i64 (p2 : Int)] 24)) := hBo2
      have vb2 : VolAt (wn.alloc (.cells #[.string t, .int .i64 (p1 : Int), .int .i64 (p2 : Int)] 24)) wn.heap.size (⟨t, (p1 : Int), (p2 : Int)⟩ : Vol) := va2
      have hyv : Hid (volB 200 (⟨t, (p1 : Int), (p2 : Int)⟩ : Vol) = true) := Lib.hid (volB_of t ht p1 p2 (by omega) (.inl (by rw [hzH.out]; rfl)))
      obtain ⟨y, hyy⟩ : ∃ y : Vol, y = (⟨t, (p1 : Int), (p2 : Int)⟩ : Vol) := ⟨_, rfl⟩
      rw [← hyy] at vb2 hyv
      clear hyy
      go_wp2_with (fail)
      refine (c1 _).mono ?_
      rintro e wq ⟨rfl, rfl⟩
      go_wp2_with (fail)
      refine (c2 _).mono ?_
      rintro e wq ⟨rfl, rfl⟩
      go_wp2_with (fail)
      obtain ⟨W2, hW2⟩ : ∃ W, W = (wn.alloc (.cells #[.string t, .int .i64 (p1 : Int), .int .i64 (p2 : Int)] 24)) := ⟨_, rfl⟩
      rw [← hW2] at hBo hBow vb2 ⊢
      clear hW2
      obtain ⟨G, hGG⟩ : ∃ G, wn.heap.size = G := ⟨_, rfl⟩
      try rw [hGG]
      rw [hGG] at vb2
      go_loopw [8, 9, 10] (fun nx pt j W => ∃ (q : Nat) (N : List Vol) (tt : Bool), q ≤ L.length ∧ j = .int .i64 (q : Int) ∧ pt = .bool tt ∧ OwnE volE W W2.heap.size 24 nx N ∧ Hid (FInv L y N tt q) ∧ Below W2.heap.size W2 W) (fun _ _ j _ => L.length - (intOf j).toNat)
      case atStart => exact ⟨0, [], false, by omega, rfl, rfl, OwnE.nil _ _ _ _, Lib.hid (FInv.start L y), Below.refl _ _⟩
      case round =>
        obtain ⟨q, N, tt, hq, rfl, rfl, ho2, hF, hBr⟩ := hrel
        obtain ⟨nx, rfl⟩ : ∃ v, v = u8 := ⟨_, rfl⟩
        rename World => wr
        have hNl : N.length ≤ 20 := by have := hF.out.len; split at this <;> omega
        by_cases hql : q < L.length
        · have y1 : (q : Int) < (L.length : Int) := by omega
          obtain ⟨cb, co, rfl, hcb, hcl⟩ := clo q hql
          have st : FSt W2 W2.heap.size G y cb (co + q * 3) (at_ L q) nx N wr := by
            obtain ⟨c0, c1, c2⟩ := hcl wr (hBow.trans (hBr.mono hBow.size))
            have vv := vb2.below hBr vb2.lt
            exact ⟨ho2, c0, c1, c2, vv.c0, vv.c1, vv.c2, hBr, Nat.lt_of_lt_of_le hcb hBow.size, vb2.lt, hBr.size⟩
          have hput := fun (h : tt = false) => FInv.put (L := L) (y := y) (N := N) (k := q) (h ▸ hF.out) hLr.out hLv.out hyv.out hql
          have hon := FInv.on (t := tt) hF.out hLr.out hLv.out hql
          have hskip := hF.out.skip
          have hne := toL_eq (at_ L q).n y.n
          have hnlt := fun (h : lt (at_ L q).n y.n = true) => lt_ne h
          generalize at_ L q = x at *
          clear ho2 hBr hF hcl
          obtain ⟨e0, e1, e2, k0, k1, k2⟩ : _ ∧ _ ∧ _ ∧ _ ∧ _ ∧ _ := ⟨st.e0, st.e1, st.e2, st.k0, st.k1, st.k2⟩
          cases tt with
          | false =>
            cases hlt : lt x.n y.n with
            | true =>
              have m1 : Op.bytesLess x.n.toList y.n.toList = true := hlt
              rw [decide_eq_false (hnlt hlt)] at hne
              have hf := Lib.hid (hon fun _ => hlt)
              clear hput hon hskip hnlt hlt
              go_wp2_with (fail)
              go_quiet (fail)
              replace st := st.drewN nq
              clear e0 e1 e2 k0 k1 k2
              generalize wr.drewN nq = wq at *
              obtain ⟨e0, e1, e2, k0, k1, k2⟩ : _ ∧ _ ∧ _ ∧ _ ∧ _ ∧ _ := ⟨st.e0, st.e1, st.e2, st.k0, st.k1, st.k2⟩
              go_wp2_with (fail)
              go_quiet (fail)
              replace st := st.drewN nq
              clear e0 e1 e2 k0 k1 k2
              generalize wq.drewN nq = wz at *
              obtain ⟨e0, e1, e2, k0, k1, k2⟩ : _ ∧ _ ∧ _ ∧ _ ∧ _ ∧ _ := ⟨st.e0, st.e1, st.e2, st.k0, st.k1, st.k2⟩
              obtain ⟨v2, w6, hap2, st2⟩ := st.push (by first | omega | (simp; omega)) x
              have o2 := Lib.hid st2.own
              have b2 := st2.b
              clear st st2 k0 k1 k2
              go_wp2_with (at_builtin; refine wpList_append_run hap2 _ _ rfl rfl rfl rfl rfl ?_)
              go_roundw
              case rel => exact ⟨q + 1, _, _, by omega, by go_num, rfl, o2.out, Lib.hid hf.out, b2⟩
              case measure => simp [intOf]; omega
            | false =>
              have m1 : Op.bytesLess x.n.toList y.n.toList = false := hlt
              by_cases he : x.n = y.n
              · rw [decide_eq_true he] at hne
                have hf := Lib.hid ((hput rfl hlt).2 he)
                clear hput hon hskip hnlt hlt he
                go_wp2_with (fail)
                go_quiet (fail)
                replace st := st.drewN nq
                clear e0 e1 e2 k0 k1 k2
                generalize wr.drewN nq = wq at *
                obtain ⟨e0, e1, e2, k0, k1, k2⟩ : _ ∧ _ ∧ _ ∧ _ ∧ _ ∧ _ := ⟨st.e0, st.e1, st.e2, st.k0, st.k1, st.k2⟩
                obtain ⟨v1, w5, hap1, st1⟩ := st.push (by omega) y
                have s5 := st1.hB
                go_wp2_with (at_builtin; refine wpList_append_run hap1 _ _ rfl rfl rfl rfl rfl ?_)
                clear st e0 e1 e2 k0 k1 k2
                obtain ⟨e0, e1, e2, k0, k1, k2⟩ : _ ∧ _ ∧ _ ∧ _ ∧ _ ∧ _ := ⟨st1.e0, st1.e1, st1.e2, st1.k0, st1.k1, st1.k2⟩
                go_quiet (fail)
                have st := st1.drewN nq
                clear hap1 st1 e0 e1 e2 k0 k1 k2
                generalize w5.drewN nq = wz at *
                obtain ⟨e0, e1, e2, k0, k1, k2⟩ : _ ∧ _ ∧ _ ∧ _ ∧ _ ∧ _ := ⟨st.e0, st.e1, st.e2, st.k0, st.k1, st.k2⟩
                have o2 := Lib.hid st.own
                have b2 := st.b
                clear st
                go_wp2_with (fail)
                go_roundw
                case rel => exact ⟨q + 1, _, _, by omega, by go_num, rfl, o2.out, Lib.hid hf.out, b2⟩
                case measure => simp [intOf]; omega
              · rw [decide_eq_false he] at hne
                have hf := Lib.hid ((hput rfl hlt).1 he)
                clear hput hon hskip hnlt hlt he
                go_wp2_with (fail)
                go_quiet (fail)
                replace st := st.drewN nq
                clear e0 e1 e2 k0 k1 k2
                generalize wr.drewN nq = wq at *
                obtain ⟨e0, e1, e2, k0, k1, k2⟩ : _ ∧ _ ∧ _ ∧ _ ∧ _ ∧ _ := ⟨st.e0, st.e1, st.e2, st.k0, st.k1, st.k2⟩
                obtain ⟨v1, w5, hap1, st1⟩ := st.push (by omega) y
                have s5 := st1.hB
                go_wp2_with (at_builtin; refine wpList_append_run hap1 _ _ rfl rfl rfl rfl rfl ?_)
                clear st e0 e1 e2 k0 k1 k2
                obtain ⟨e0, e1, e2, k0, k1, k2⟩ : _ ∧ _ ∧ _ ∧ _ ∧ _ ∧ _ := ⟨st1.e0, st1.e1, st1.e2, st1.k0, st1.k1, st1.k2⟩
                go_quiet (fail)
                have st := st1.drewN nq
                clear hap1 st1 e0 e1 e2 k0 k1 k2
                generalize w5.drewN nq = wz at *
                obtain ⟨e0, e1, e2, k0, k1, k2⟩ : _ ∧ _ ∧ _ ∧ _ ∧ _ ∧ _ := ⟨st.e0, st.e1, st.e2, st.k0, st.k1, st.k2⟩
                obtain ⟨v2, w6, hap2, st2⟩ := st.push (by first | omega | (simp; omega)) x
                have o2 := Lib.hid st2.own
                have b2 := st2.b
                clear st st2 k0 k1 k2
                go_wp2_with (at_builtin; refine wpList_append_run hap2 _ _ rfl rfl rfl rfl rfl ?_)
                go_roundw
                case rel => exact ⟨q + 1, _, _, by omega, by go_num, rfl, o2.out, Lib.hid hf.out, b2⟩
                case measure => simp [intOf]; omega
          | true =>
            by_cases he : x.n = y.n
            · rw [decide_eq_true he] at hne
              have hf := Lib.hid (hskip rfl)
              clear hput hon hskip hnlt he
              go_wp2_with (fail)
              go_quiet (fail)
              replace st := st.drewN nq
              clear e0 e1 e2 k0 k1 k2
              generalize wr.drewN nq = wq at *
              obtain ⟨e0, e1, e2, k0, k1, k2⟩ : _ ∧ _ ∧ _ ∧ _ ∧ _ ∧ _ := ⟨st.e0, st.e1, st.e2, st.k0, st.k1, st.k2⟩
              go_wp2_with (fail)
              go_quiet (fail)
              replace st := st.drewN nq
              clear e0 e1 e2 k0 k1 k2
              generalize wq.drewN nq = wz at *
              obtain ⟨e0, e1, e2, k0, k1, k2⟩ : _ ∧ _ ∧ _ ∧ _ ∧ _ ∧ _ := ⟨st.e0, st.e1, st.e2, st.k0, st.k1, st.k2⟩
              have o2 := Lib.hid st.own
              have b2 := st.b
              clear st
              go_wp2_with (fail)
              go_roundw
              case rel => exact ⟨q + 1, _, _, by omega, by go_num, rfl, o2.out, Lib.hid hf.out, b2⟩
              case measure => simp [intOf]; omega
            · rw [decide_eq_false he] at hne
              have hf := Lib.hid (hon fun h => by cases h)
              clear hput hon hskip hnlt he
              go_wp2_with (fail)
              go_quiet (fail)
              replace st := st.drewN nq
              clear e0 e1 e2 k0 k1 k2
              generalize wr.drewN nq = wq at *
              obtain ⟨e0, e1, e2, k0, k1, k2⟩ : _ ∧ _ ∧ _ ∧ _ ∧ _ ∧ _ := ⟨st.e0, st.e1, st.e2, st.k0, st.k1, st.k2⟩
              go_wp2_with (fail)
              go_quiet (fail)
              replace st := st.drewN nq
              clear e0 e1 e2 k0 k1 k2
              generalize wq.drewN nq = wz at *
              obtain ⟨e0, e1, e2, k0, k1, k2⟩ : _ ∧ _ ∧ _ ∧ _ ∧ _ ∧ _ := ⟨st.e0, st.e1, st.e2, st.k0, st.k1, st.k2⟩
              obtain ⟨v2, w6, hap2, st2⟩ := st.push (by first | omega | (simp; omega)) x
              have o2 := Lib.hid st2.own
              have b2 := st2.b
              clear st st2 k0 k1 k2
              go_wp2_with (at_builtin; refine wpList_append_run hap2 _ _ rfl rfl rfl rfl rfl ?_)
              go_roundw
              case rel => exact ⟨q + 1, _, _, by omega, by go_num, rfl, o2.out, Lib.hid hf.out, b2⟩
              case measure => simp [intOf]; omega
        · have y1 : ¬ ((q : Int) < (L.length : Int)) := by omega
          obtain rfl : q = L.length := by omega
          have vv := vb2.below hBr vb2.lt
          cases tt with
          | false =>
            have hfin := Lib.hid (hF.out.fin hyv.out)
            obtain ⟨v', w', hap, o', b'⟩ := ho2.pushV (by omega) hBr.size y
            have hBB := hBo.trans ((hBr.trans b').mono hBo.size)
            obtain ⟨k0, k1, k2, _⟩ := vv
            have oo := o'.mono (show w.heap.size ≤ W2.heap.size from hBo.size)
            clear o' b' hF ho2
            go_wp2_with (at_builtin; refine wpList_append_run hap _ _ rfl rfl rfl rfl rfl ?_)
            go_roundw
            case rel => exact ⟨k + 1, N ++ [y], by omega, by go_num, oo, Lib.hid hfin.out.1, Lib.hid hfin.out.2.1, by have := hfin.out.2.2; omega, hBB⟩
            case measure => simp [intOf]; omega
          | true =>
            have hBB := hBo.trans (hBr.mono hBo.size)
            have oo := ho2.mono (show w.heap.size ≤ W2.heap.size from hBo.size)
            have hl8 : N.length ≤ 8 := by have := hF.out.len; simp at this; omega
            go_wp2_with (fail)
            go_roundw
            case rel => exact ⟨k + 1, N, by omega, by go_num, oo, Lib.hid hF.out.r, Lib.hid hF.out.v, hl8, hBB⟩
            case measure => simp [intOf]; omega
    have z1 : (0 : Int) < (p2 : Int) := by omega
    have z1n : decide (0 < p2) = true := by rw [decide_eq_true_eq]; omega
    have z2 : IntKind.i64.wrap ((p2 : Int) + 2) = (p2 : Int) + 2 := IntWalk.i64_in _ (by omega)
    have hBS3 : Below w.heap.size w (wn.alloc (.cells #[.string t, .int .i64 (p1 : Int), .int .i64 ((p2 : Int) + 2)] 24)) := hBn.alloc hBn.size _
    have hBo3 : Below wo.heap.size wo (wn.alloc (.cells #[.string t, .int .i64 (p1 : Int), .int .i64 ((p2 : Int) + 2)] 24)) := hBon.alloc hBon.size _
    have va3 := VolAt.made wn ⟨t, (p1 : Int), ((p2 : Int) + 2)⟩ 24
    have hp0 := Lib.hid hz
    clear hz
    have hBo : Below w.heap.size w (wn.alloc (.cells #[.string t, .int .i64 (p1 : Int), .int .i64 ((p2 : Int) + 2)] 24)) := hBS3
    have hBow : Below wo.heap.size wo (wn.alloc (.cells #[.string t, .int .i64 (p1 : Int), .int .i64 ((p2 : Int) + 2)] 24)) := hBo3
    have vb2 : VolAt (wn.alloc (.cells #[.string t, .int .i64 (p1 : Int), .int .i64 ((p2 : Int) + 2)] 24)) wn.heap.size (⟨t, (p1 : Int), ((p2 : Int) + 2)⟩ : Vol) := va3
    have hyv : Hid (volB 200 (⟨t, (p1 : Int), ((p2 : Int) + 2)⟩ : Vol) = true) := Lib.hid (volB_of t ht p1 ((p2 : Int) + 2) (by omega) (.inr (by have := hp0.out; omega)))
    obtain ⟨y, hyy⟩ : ∃ y : Vol, y = (⟨t, (p1 : Int), ((p2 : Int) + 2)⟩ : Vol) := ⟨_, rfl⟩
    rw [← hyy] at vb2 hyv
    clear hyy
    go_wp2_with (fail)
    refine (c1 _).mono ?_
    rintro e wq ⟨rfl, rfl⟩
    go_wp2_with (fail)
    refine (c2 _).mono ?_
    rintro e wq ⟨rfl, rfl⟩
    go_wp2_with (fail)
    obtain ⟨W2, hW2⟩ : ∃ W, W = (wn.alloc (.cells #[.string t, .int .i64 (p1 : Int), .int .i64 ((p2 : Int) + 2)] 24)) := ⟨_, rfl⟩
    rw [← hW2] at hBo hBow vb2 ⊢
    clear hW2
    obtain ⟨G, hGG⟩ : ∃ G, wn.heap.size = G := ⟨_, rfl⟩
    try rw [hGG]
    rw [hGG] at vb2
    go_loopw [8, 9, 10] (fun nx pt j W => ∃ (q : Nat) (N : List Vol) (tt : Bool), q ≤ L.length ∧ j = .int .i64 (q : Int) ∧ pt = .bool tt ∧ OwnE volE W W2.heap.size 24 nx N ∧ Hid (FInv L y N tt q) ∧ Below W2.heap.size W2 W) (fun _ _ j _ => L.length - (intOf j).toNat)
    case atStart => exact ⟨0, [], false, by omega, rfl, rfl, OwnE.nil _ _ _ _, Lib.hid (FInv.start L y), Below.refl _ _⟩
    case round =>
      obtain ⟨q, N, tt, hq, rfl, rfl, ho2, hF, hBr⟩ := hrel
      obtain ⟨nx, rfl⟩ : ∃ v, v = u8 := ⟨_, rfl⟩
      rename World => wr
      have hNl : N.length ≤ 20 := by have := hF.out.len; split at this <;> omega
      by_cases hql : q < L.length
      · have y1 : (q : Int) < (L.length : Int) := by omega
        obtain ⟨cb, co, rfl, hcb, hcl⟩ := clo q hql
        have st : FSt W2 W2.heap.size G y cb (co + q * 3) (at_ L q) nx N wr := by
          obtain ⟨c0, c1, c2⟩ := hcl wr (hBow.trans (hBr.mono hBow.size))
          have vv := vb2.below hBr vb2.lt
          exact ⟨ho2, c0, c1, c2, vv.c0, vv.c1, vv.c2, hBr, Nat.lt_of_lt_of_le hcb hBow.size, vb2.lt, hBr.size⟩
        have hput := fun (h : tt = false) => FInv.put (L := L) (y := y) (N := N) (k := q) (h ▸ hF.out) hLr.out hLv.out hyv.out hql
        have hon := FInv.on (t := tt) hF.out hLr.out hLv.out hql
        have hskip := hF.out.skip
        have hne := toL_eq (at_ L q).n y.n
        have hnlt := fun (h : lt (at_ L q).n y.n = true) => lt_ne h
        generalize at_ L q = x at *
        clear ho2 hBr hF hcl
        obtain ⟨e0, e1, e2, k0, k1, k2⟩ : _ ∧ _ ∧ _ ∧ _ ∧ _ ∧ _ := ⟨st.e0, st.e1, st.e2, st.k0, st.k1, st.k2⟩
        cases tt with
        | false =>
          cases hlt : lt x.n y.n with
          | true =>
            have m1 : Op.bytesLess x.n.toList y.n.toList = true := hlt
            rw [decide_eq_false (hnlt hlt)] at hne
            have hf := Lib.hid (hon fun _ => hlt)
            clear hput hon hskip hnlt hlt
            go_wp2_with (fail)
            go_quiet (fail)
            replace st := st.drewN nq
            clear e0 e1 e2 k0 k1 k2
            generalize wr.drewN nq = wq at *
            obtain ⟨e0, e1, e2, k0, k1, k2⟩ : _ ∧ _ ∧ _ ∧ _ ∧ _ ∧ _ := ⟨st.e0, st.e1, st.e2, st.k0, st.k1, st.k2⟩
            go_wp2_with (fail)
            go_quiet (fail)
            replace st := st.drewN nq
            clear e0 e1 e2 k0 k1 k2
            generalize wq.drewN nq = wz at *
            obtain ⟨e0, e1, e2, k0, k1, k2⟩ : _ ∧ _ ∧ _ ∧ _ ∧ _ ∧ _ := ⟨st.e0, st.e1, st.e2, st.k0, st.k1, st.k2⟩
            obtain ⟨v2, w6, hap2, st2⟩ := st.push (by first | omega | (simp; omega)) x
            have o2 := Lib.hid st2.own
            have b2 := st2.b
            clear st st2 k0 k1 k2
            go_wp2_with (at_builtin; refine wpList_append_run hap2 _ _ rfl rfl rfl rfl rfl ?_)
            go_roundw
            case rel => exact ⟨q + 1, _, _, by omega, by go_num, rfl, o2.out, Lib.hid hf.out, b2⟩
            case measure => simp [intOf]; omega
          | false =>
            have m1 : Op.bytesLess x.n.toList y.n.toList = false := hlt
            by_cases he : x.n = y.n
            · rw [decide_eq_true he] at hne
              have hf := Lib.hid ((hput rfl hlt).2 he)
              clear hput hon hskip hnlt hlt he
              go_wp2_with (fail)
              go_quiet (fail)
              replace st := st.drewN nq
              clear e0 e1 e2 k0 k1 k2
              generalize wr.drewN nq = wq at *
              obtain ⟨e0, e1, e2, k0, k1, k2⟩ : _ ∧ _ ∧ _ ∧ _ ∧ _ ∧ _ := ⟨st.e0, st.e1, st.e2, st.k0, st.k1, st.k2⟩
              obtain ⟨v1, w5, hap1, st1⟩ := st.push (by omega) y
              have s5 := st1.hB
              go_wp2_with (at_builtin; refine wpList_append_run hap1 _ _ rfl rfl rfl rfl rfl ?_)
              clear st e0 e1 e2 k0 k1 k2
              obtain ⟨e0, e1, e2, k0, k1, k2⟩ : _ ∧ _ ∧ _ ∧ _ ∧ _ ∧ _ := ⟨st1.e0, st1.e1, st1.e2, st1.k0, st1.k1, st1.k2⟩
              go_quiet (fail)
              have st := st1.drewN nq
              clear hap1 st1 e0 e1 e2 k0 k1 k2
              generalize w5.drewN nq = wz at *
              obtain ⟨e0, e1, e2, k0, k1, k2⟩ : _ ∧ _ ∧ _ ∧ _ ∧ _ ∧ _ := ⟨st.e0, st.e1, st.e2, st.k0, st.k1, st.k2⟩
              have o2 := Lib.hid st.own
              have b2 := st.b
              clear st
              go_wp2_with (fail)
              go_roundw
              case rel => exact ⟨q + 1, _, _, by omega, by go_num, rfl, o2.out, Lib.hid hf.out, b2⟩
              case measure => simp [intOf]; omega
            · rw [decide_eq_false he] at hne
              have hf := Lib.hid ((hput rfl hlt).1 he)
              clear hput hon hskip hnlt hlt he
              go_wp2_with (fail)
              go_quiet (fail)
              replace st := st.drewN nq
              clear e0 e1 e2 k0 k1 k2
              generalize wr.drewN nq = wq at *
              obtain ⟨e0, e1, e2, k0, k1, k2⟩ : _ ∧ _ ∧ _ ∧ _ ∧ _ ∧ _ := ⟨st.e0, st.e1, st.e2, st.k0, st.k1, st.k2⟩
              obtain ⟨v1, w5, hap1, st1⟩ := st.push (by omega) y
              have s5 := st1.hB
              go_wp2_with (at_builtin; refine wpList_append_run hap1 _ _ rfl rfl rfl rfl rfl ?_)
              clear st e0 e1 e2 k0 k1 k2
              obtain ⟨e0, e1, e2, k0, k1, k2⟩ : _ ∧ _ ∧ _ ∧ _ ∧ _ ∧ _ := ⟨st1.e0, st1.e1, st1.e2, st1.k0, st1.k1, st1.k2⟩
              go_quiet (fail)
              have st := st1.drewN nq
              clear hap1 st1 e0 e1 e2 k0 k1 k2
              generalize w5.drewN nq = wz at *
              obtain ⟨e0, e1, e2, k0, k1, k2⟩ : _ ∧ _ ∧ _ ∧ _ ∧ _ ∧ _ := ⟨st.e0, st.e1, st.e2, st.k0, st.k1, st.k2⟩
              obtain ⟨v2, w6, hap2, st2⟩ := st.push (by first | omega | (simp; omega)) x
              have o2 := Lib.hid st2.own
              have b2 := st2.b
              clear st st2 k0 k1 k2
              go_wp2_with (at_builtin; refine wpList_append_run hap2 _ _ rfl rfl rfl rfl rfl ?_)
              go_roundw
              case rel => exact ⟨q + 1, _, _, by omega, by go_num, rfl, o2.out, Lib.hid hf.out, b2⟩
              case measure => simp [intOf]; omega
        | true =>
          by_cases he : x.n = y.n
          · rw [decide_eq_true he] at hne
            have hf := Lib.hid (hskip rfl)
            clear hput hon hskip hnlt he
            go_wp2_with (fail)
            go_quiet (fail)
            replace st := st.drewN nq
            clear e0 e1 e2 k0 k1 k2
            generalize wr.drewN nq = wq at *
            obtain ⟨e0, e1, e2, k0, k1, k2⟩ : _ ∧ _ ∧ _ ∧ _ ∧ _ ∧ _ := ⟨st.e0, st.e1, st.e2, st.k0, st.k1, st.k2⟩
            go_wp2_with (fail)
            go_quiet (fail)
            replace st := st.drewN nq
            clear e0 e1 e2 k0 k1 k2
            generalize wq.drewN nq = wz at *
            obtain ⟨e0, e1, e2, k0, k1, k2⟩ : _ ∧ _ ∧ _ ∧ _ ∧ _ ∧ _ := ⟨st.e0, st.e1, st.e2, st.k0, st.k1, st.k2⟩
            have o2 := Lib.hid st.own
            have b2 := st.b
            clear st
            go_wp2_with (fail)
            go_roundw
            case rel => exact ⟨q + 1, _, _, by omega, by go_num, rfl, o2.out, Lib.hid hf.out, b2⟩
            case measure => simp [intOf]; omega
          · rw [decide_eq_false he] at hne
            have hf := Lib.hid (hon fun h => by cases h)
            clear hput hon hskip hnlt he
            go_wp2_with (fail)
            go_quiet (fail)
            replace st := st.drewN nq
            clear e0 e1 e2 k0 k1 k2
            generalize wr.drewN nq = wq at *
            obtain ⟨e0, e1, e2, k0, k1, k2⟩ : _ ∧ _ ∧ _ ∧ _ ∧ _ ∧ _ := ⟨st.e0, st.e1, st.e2, st.k0, st.k1, st.k2⟩
            go_wp2_with (fail)
            go_quiet (fail)
            replace st := st.drewN nq
            clear e0 e1 e2 k0 k1 k2
            generalize wq.drewN nq = wz at *
            obtain ⟨e0, e1, e2, k0, k1, k2⟩ : _ ∧ _ ∧ _ ∧ _ ∧ _ ∧ _ := ⟨st.e0, st.e1, st.e2, st.k0, st.k1, st.k2⟩
            obtain ⟨v2, w6, hap2, st2⟩ := st.push (by first | omega | (simp; omega)) x
            have o2 := Lib.hid st2.own
            have b2 := st2.b
            clear st st2 k0 k1 k2
            go_wp2_with (at_builtin; refine wpList_append_run hap2 _ _ rfl rfl rfl rfl rfl ?_)
            go_roundw
            case rel => exact ⟨q + 1, _, _, by omega, by go_num, rfl, o2.out, Lib.hid hf.out, b2⟩
            case measure => simp [intOf]; omega
      · have y1 : ¬ ((q : Int) < (L.length : Int)) := by omega
        obtain rfl : q = L.length := by omega
        have vv := vb2.below hBr vb2.lt
        cases tt with
        | false =>
          have hfin := Lib.hid (hF.out.fin hyv.out)
          obtain ⟨v', w', hap, o', b'⟩ := ho2.pushV (by omega) hBr.size y
          have hBB := hBo.trans ((hBr.trans b').mono hBo.size)
          obtain ⟨k0, k1, k2, _⟩ := vv
          have oo := o'.mono (show w.heap.size ≤ W2.heap.size from hBo.size)
          clear o' b' hF ho2
          go_wp2_with (at_builtin; refine wpList_append_run hap _ _ rfl rfl rfl rfl rfl ?_)
          go_roundw
          case rel => exact ⟨k + 1, N ++ [y], by omega, by go_num, oo, Lib.hid hfin.out.1, Lib.hid hfin.out.2.1, by have := hfin.out.2.2; omega, hBB⟩
          case measure => simp [intOf]; omega
        | true =>
          have hBB := hBo.trans (hBr.mono hBo.size)
          have oo := ho2.mono (show w.heap.size ≤ W2.heap.size from hBo.size)
          have hl8 : N.length ≤ 8 := by have := hF.out.len; simp at this; omega
          go_wp2_with (fail)
          go_roundw
          case rel => exact ⟨k + 1, N, by omega, by go_num, oo, Lib.hid hF.out.r, Lib.hid hF.out.v, hl8, hBB⟩
          case measure => simp [intOf]; omega
end Go.Proofs.Ytfmgoamgcjipkaa
