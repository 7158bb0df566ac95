import Derived.Test.YtjgafpkpoppcbaaGreatDoorStrMath7
import Derived.Test.YtjgafpkpoppcbaaGreatDoorLstr
import Derived.Test.YtjgafpkpoppcbaaGreatDoorLsec
set_option linter.unusedVariables false
set_option linter.unusedSimpArgs false
namespace Go.Proofs.YtjgafpkpoppcbaaGreatDoor
open Go.RowKit
set_option maxRecDepth 100000
section
variable {w w1 w2 : World} {S : Nat → Prop} {k n : Nat} {R : Rk}
theorem KA.other (h : KA w S w1 k n R) (hb : Below w.heap.size w1 w2) (hk : ∀ x, S x → w2.heap[x]? = w1.heap[x]?) : KA w S w2 k n R := by
  obtain ⟨q, cap, T, mm, sec, ar, h1, h2, h3⟩ := h.h
  exact ⟨h.b.trans hb, h.f, q, cap, T, mm, sec, ar, h1.heap hk hb.size, h2, h3⟩
theorem krd_size (h : KA w S w1 k n R) (s at_ : Int) : (rdRS n R s at_).size ≤ 128 := by
  obtain ⟨q, cap, T, mm, sec, ar, hB, h2, h3⟩ := h.h
  unfold rdRS
  by_cases e0 : rhE n R s = 0
  · obtain ⟨i, rfl, hi, ho⟩ := rhE_ok e0
    rw [if_pos e0, Int.toNat_natCast]
    obtain ⟨q', cap', F, hp⟩ := hB.p i hi
    unfold rdS
    by_cases e1 : (R.M i).fd = true
    · rw [if_pos e1]; decide
    · rw [if_neg e1]
      by_cases e2 : hasN (R.M i).L at_ = true
      · obtain ⟨j, rfl, hj⟩ := hasN_nat e2
        rw [if_pos e2, Int.toNat_natCast]
        unfold lastOf
        rw [List.getLastD_eq_getLast?]
        cases e3 : ((R.M i).V (j : Int)).getLast? with
        | none => rw [Option.getD_none, List.getD_eq_getElem?_getD, List.getElem?_eq_getElem hj, Option.getD_some, hp.zl _ (List.getElem_mem hj)]; exact Nat.le_refl _
        | some x => rw [Option.getD_some, hp.zv _ x (List.mem_of_getLast? e3)]; exact Nat.le_refl _
      · rw [if_neg e2]; decide
  · rw [if_neg e0]; decide
end
section
variable {w w1 wr w' : World} {S : Nat → Prop} {k n : Nat} {R : Rk}
def KNow (w : World) (S : Nat → Prop) (w1 : World) (k n : Nat) (R : Rk) (wr : World) : Prop := ∃ S', Stp S S' w1 wr ∧ KA w S' wr k n R
theorem KNow.after (h : KNow w S w1 k n R wr) (hb : Below wr.heap.size wr w') : KNow w S w1 k n R w' := by
  obtain ⟨S', s1, h1⟩ := h
  exact ⟨S', s1.trans (Stp.quiet hb), h1.after hb⟩
theorem KNow.keep (h : KNow w S w1 k n R wr) {q : Nat} (hq : q < w1.heap.size) (hS : ¬ S q) : wr.heap[q]? = w1.heap[q]? := by
  obtain ⟨S', s1, h1⟩ := h
  exact s1.oth q hq hS
theorem KNow.size (h : KNow w S w1 k n R wr) : w1.heap.size ≤ wr.heap.size := by
  obtain ⟨S', s1, h1⟩ := h
  exact s1.b0.size
theorem KNow.start (h : KA w S w1 k n R) : KNow w S w1 k n R w1 := ⟨S, Stp.refl _ _, h⟩
theorem KNow.calls (h : KNow w S w1 k n R wr) {f : Nat} {args : Array Value} {R' : Rk} {u : Value} (c : ∀ S', KA w S' wr k n R → Calls Tryz.prog f args wr (KDoes w S' wr k n R' u)) : Calls Tryz.prog f args wr fun e w' => e = .returned u ∧ KNow w S w1 k n R' w' := by
  obtain ⟨S', s1, h1⟩ := h
  refine (c S' h1).mono ?_
  rintro e w' ⟨e1, S2, s2, h2⟩
  exact ⟨e1, S2, s1.trans s2, h2⟩
end
def KOwn (w : World) (S : Nat → Prop) (w1 : World) (k n : Nat) (R : Rk) (E : TypeId) (v : Value) (xs : List Value) (wr : World) : Prop :=
  ∃ S', Stp S S' w1 wr ∧ KA w S' wr k n R ∧ Own wr w1.heap.size E v xs ∧ ∀ q, v.ownBlock = some q → ¬ S' q
section
variable {w w1 wr w' : World} {S : Nat → Prop} {k n : Nat} {R R' : Rk} {E : TypeId} {v : Value} {xs : List Value}
theorem KOwn.nil (h : KNow w S w1 k n R wr) (E : TypeId) : KOwn w S w1 k n R E (.slice none 0 0) [] wr := by
  obtain ⟨S', s1, h1⟩ := h
  exact ⟨S', s1, h1, Own.nil _ _ _, fun q hq => by cases hq⟩
theorem KOwn.now (h : KOwn w S w1 k n R E v xs wr) : KNow w S w1 k n R wr := by
  obtain ⟨S', s1, h1, _⟩ := h
  exact ⟨S', s1, h1⟩
theorem KOwn.own (h : KOwn w S w1 k n R E v xs wr) : Own wr w1.heap.size E v xs := by
  obtain ⟨S', s1, h1, o, _⟩ := h
  exact o
theorem KOwn.size (h : KOwn w S w1 k n R E v xs wr) : w1.heap.size ≤ wr.heap.size := h.now.size
theorem KOwn.keep (h : KOwn w S w1 k n R E v xs wr) {q : Nat} (hq : q < w1.heap.size) (hS : ¬ S q) : wr.heap[q]? = w1.heap[q]? := h.now.keep hq hS
theorem KOwn.after (h : KOwn w S w1 k n R E v xs wr) (hb : Below wr.heap.size wr w') : KOwn w S w1 k n R E v xs w' := by
  obtain ⟨S', s1, h1, o, a⟩ := h
  exact ⟨S', s1.trans (Stp.quiet hb), h1.after hb, o.after hb, a⟩
theorem KOwn.calls (h : KOwn w S w1 k n R E v xs wr) {f : Nat} {args : Array Value} {u : Value} (c : ∀ S', KA w S' wr k n R → Stp S S' w1 wr → Calls Tryz.prog f args wr (KDoes w S' wr k n R' u)) : Calls Tryz.prog f args wr fun e w' => e = .returned u ∧ KOwn w S w1 k n R' E v xs w' := by
  obtain ⟨S', s1, h1, o, a⟩ := h
  refine (c S' h1 s1).mono ?_
  rintro e w' ⟨e1, S2, s2, h2⟩
  refine ⟨e1, S2, s1.trans s2, h2, o.sameAt fun q hq => s2.oth q (o.o.lt q hq).2 (a q hq), fun q hq hs => ?_⟩
  rcases s2.grow q hs with z | z
  · exact a q hq z
  · have := (o.o.lt q hq).2; omega
theorem KOwn.push {P : Program} {T : TypeId} {i : TypeInfo} {z : Value} {bytes : Nat} (hT : P.underlying T = some (.slice E)) (hi : P.info? E = some i) (hz : i.zero = some z) (hs : i.size = 1) (hy : i.bytes = bytes) (hzs : z.cells.size = 1)
    (h : KOwn w S w1 k n R E v xs wr) (hw : w.heap.size ≤ w1.heap.size) (x : Value) (hx : x.oneCell' = true) (hm : (xs.length + 1) * bytes ≤ 140737488355328) (hl : xs.length + 1 ≤ 140737488355328) :
    ∃ v' w', (Builtin.append_ #[T, T] T #[v, .slice (some ⟨wr.heap.size, 0, none⟩) 1 1]).run P (wr.alloc (.cells #[x] E)) = .ok v' w' ∧ KOwn w S w1 k n R E v' (xs ++ [x]) w' := by
  obtain ⟨S', s1, h1, o, a⟩ := h
  obtain ⟨v', w', hap, o', b', kp, hv⟩ := Own.pushA (P := P) (T := T) hT hi hz hs hy hzs o x hx s1.b0.size hm hl
  have hne : ∀ q, S' q → w'.heap[q]? = wr.heap[q]? := fun q hq => kp q (h1.lt q hq) fun e => a q e hq
  refine ⟨v', w', hap, S', ⟨s1.b0.trans (b'.mono (Nat.zero_le _)), fun q hq hS => (kp q (Nat.lt_of_lt_of_le hq s1.b0.size) fun e => ?_).trans (s1.oth q hq hS), s1.grow⟩, KA.other h1 (b'.mono hw) hne, o', fun q hq hs => ?_⟩
  · have := (o.o.lt q e).1; omega
  · rcases hv with e | e
    · rw [e] at hq; exact a q hq hs
    · rw [e] at hq
      injection hq with hq
      have := h1.lt q hs
      omega
end
def KEDoes (w : World) (S : Nat → Prop) (w1 : World) (k n : Nat) (X : Rk × List Int × Int) (e : Ending) (w' : World) : Prop := ∃ v, e = .returned (.tuple #[v, .int .i64 X.2.2]) ∧ KOwn w S w1 k n X.1 3 v (X.2.1.map (.int .i64)) w'
section
variable {w w1 w4 wr w' : World} {S : Nat → Prop} {k n : Nat} {R : Rk} {E : TypeId} {v : Value} {xs : List Value}
theorem KOwn.from (hb : Below w1.heap.size w1 w4) (h : KOwn w S w4 k n R E v xs wr) : KOwn w S w1 k n R E v xs wr := by
  obtain ⟨S', s1, h1, o, a⟩ := h
  exact ⟨S', (Stp.quiet hb).trans s1, h1, o.down hb.size, a⟩
theorem KEDoes.from (hb : Below w1.heap.size w1 w4) {X : Rk × List Int × Int} {e : Ending} (h : KEDoes w S w4 k n X e w') : KEDoes w S w1 k n X e w' := by
  obtain ⟨v, e1, h1⟩ := h
  exact ⟨v, e1, h1.from hb⟩
theorem kedoes_no (h : KA w S w1 k n R) (hb : Below w1.heap.size w1 w4) (E : Int) : KEDoes w S w1 k n (R, [], E) (.returned (.tuple #[.slice none 0 0, .int .i64 E])) w4 :=
  ⟨_, rfl, KOwn.nil ((KNow.start h).after hb) 3⟩
set_option maxHeartbeats 1000000 in
theorem kopens_any (h : KA w S w1 k n R) (hk : ROk n R 1000000000000) (id slot at_ : Int) :
    Calls Tryz.prog 72 #[.pointer (some ⟨k, 0, none⟩), .int .i64 id, .int .i64 slot, .int .i64 at_] w1 (TellsB w1 (srS n R id slot at_) (srB n R id slot at_)) := by
  have cr := kt_read h slot at_ hk
  have hs := krd_size h slot at_
  have h1 := Lib.hid (sr_eq (n := n) (R := R) (id := id) slot at_)
  generalize srS n R id slot at_ = x1 at *
  generalize srB n R id slot at_ = x2 at *
  generalize rdRS n R slot at_ = s at *
  generalize rdRE n R slot at_ = er at *
  have co := ropen_any id slot at_ s w1 (by omega)
  clear h hk hs
  go_enter Tryz.func72, Tryz.ntmps72
  go_wp2_with (fail)
  refine cr.mono ?_
  rintro e w2 ⟨rfl, rfl⟩
  clear cr
  go_wp2_with (fail)
  refine co.mono ?_
  rintro e w3 ⟨rfl, b3⟩
  clear co
  go_wp2_with (fail)
  go_ret2
  exact ⟨by rw [h1.out.1, h1.out.2]; rfl, b3⟩
set_option maxHeartbeats 1000000 in
theorem kputs_any (h : KA w S w1 k n R) (hk : ROk n R 1000000000000) (id slot at_ : Int) (p : ByteArray) (hp : p.size ≤ 140737488351232) (hz : (sealL id slot at_ p).size ≤ 140737488355328) :
    Calls Tryz.prog 50 #[.pointer (some ⟨k, 0, none⟩), .int .i64 id, .int .i64 slot, .int .i64 at_, .string p] w1 (KDoes w S w1 k n (wrR n R slot at_ (sealL id slot at_ p)) (.int .i64 (wrRE n R slot at_ (sealL id slot at_ p)))) := by
  have cs := rseal_any id slot at_ p w1 hp
  have cw : Hid (∀ W, Below w1.heap.size w1 W → Calls Tryz.prog 94 #[.pointer (some ⟨k, 0, none⟩), .int .i64 slot, .int .i64 at_, .string (sealL id slot at_ p)] W (KDoes w S W k n (wrR n R slot at_ (sealL id slot at_ p)) (.int .i64 (wrRE n R slot at_ (sealL id slot at_ p))))) := Lib.hid fun W hW => kt_write (h.after hW) slot at_ (sealL id slot at_ p) hz hk
  generalize wrR n R slot at_ (sealL id slot at_ p) = R2 at *
  generalize wrRE n R slot at_ (sealL id slot at_ p) = e2 at *
  generalize sealL id slot at_ p = q at *
  generalize sealE id slot at_ p = eq at *
  clear h hk hz
  go_enter Tryz.func50, Tryz.ntmps50
  go_wp2_with (fail)
  refine cs.mono ?_
  rintro e w2 ⟨rfl, b2⟩
  have cw2 := cw.out w2 b2
  clear cs
  go_wp2_with (fail)
  refine cw2.mono ?_
  rintro e w3 ⟨rfl, S3, s3, a3⟩
  have s13 := Lib.hid ((Stp.quiet (S := S) b2).trans s3)
  have a3' := Lib.hid a3
  clear cw2 cw s3 a3 b2
  go_wp2_with (fail)
  go_ret
  exact ⟨rfl, S3, s13.out, a3'.out⟩
end
end Go.Proofs.YtjgafpkpoppcbaaGreatDoor
