/- mat: some of n things, each once. -/
import Derived.Test.YtocaboamlagaaaaDoorMatLaw5
namespace Go.Proofs.YtocaboamlagaaaaDoor
open Go.RowKit
set_option linter.unusedVariables false
set_option linter.unusedSimpArgs false

theorem Tryd.infoI : (Tryd.prog.info? 3).map (fun i => (i.zero, i.size, i.bytes)) = some (some (.int .i64 0), 1, 8) := by kernel_rfl
def iv (l : List Int) : List Value := l.map (.int .i64)
def nv (l : List Nat) : List Value := l.map fun (x : Nat) => Value.int .i64 ((x : Nat) : Int)
theorem iv_getD (l : List Int) {i : Nat} (h : i < l.length) : (iv l).getD i .nilFunc = .int .i64 (l.getD i 0) := by
  simp [iv, List.getD_eq_getElem?_getD, h]
theorem nv_getD (l : List Nat) {i : Nat} (h : i < l.length) : (nv l).getD i .nilFunc = .int .i64 ((l.getD i 0 : Nat) : Int) := by
  simp [nv, List.getD_eq_getElem?_getD, h]
theorem iv_length (l : List Int) : (iv l).length = l.length := by simp [iv]
theorem nv_length (l : List Nat) : (nv l).length = l.length := by simp [nv]
theorem nv_snoc (l : List Nat) (x : Nat) : nv (l ++ [x]) = nv l ++ [.int .i64 (x : Int)] := by simp [nv]
def capOk : Value → Prop
  | .slice _ l c => l ≤ c
  | _ => True
/-- The first m of a slice. -/
theorem Reads.to_run {P : Program} {T E : TypeId} {i : TypeInfo} (hT : P.underlying T = some (.slice E)) (hi : P.info? E = some i) (hs : i.size = 1) {w : World} {v : Value} {xs : List Value} (h : Reads w v xs) (hc : capOk v) {m : Nat} (hm : m ≤ xs.length) :
    ∃ v2, (∀ W, (Instr.slice T v none (some (.int .i64 (m : Int))) none).run P W = .ok v2 W) ∧ Reads w v2 (xs.take m) := by
  rcases h with ⟨rfl, rfl⟩ | ⟨b, off, cap, rfl, hb, hx⟩
  · have : m = 0 := by simpa using hm
    subst this
    exact ⟨.slice none 0 0, fun W => by simp [Instr.slice, run_underlying hT, Instr.sliceBounds, Instr.sliceBound, asIntOf, sizeOf, typeInfo, hi], .inl ⟨rfl, rfl⟩⟩
  · have hc' : xs.length ≤ cap := hc
    refine ⟨.slice (some ⟨b, off, none⟩) m cap, fun W => ?_, .inr ⟨b, off, cap, by simp [Nat.min_eq_left hm], hb, fun j hj => ?_⟩⟩
    · have e1 : ((m : Int) ≤ (cap : Int)) := by omega
      have e2 : m ≤ cap := by omega
      simp [Instr.slice, run_underlying hT, Instr.sliceBounds, Instr.sliceBound, asIntOf, sizeOf, typeInfo, hi, hs, e2, Addr.add]
    · rw [List.length_take, Nat.min_eq_left hm] at hj
      rw [hx j (by omega), List.getD_eq_getElem?_getD, List.getD_eq_getElem?_getD, List.getElem?_take, if_pos hj]
/-- Some numbers below n, each once. -/
def GivesN (w : World) (n : Nat) (e : Ending) (w' : World) : Prop :=
  ∃ v r, e = .returned v ∧ Own w' w.heap.size 3 v (nv r) ∧ r.Nodup ∧ (∀ x ∈ r, x < n) ∧ r.length ≤ 50 ∧ Below w.heap.size w w'
def hasB (r : List Nat) (x k : Nat) : Bool := decide (x ∈ r.take k)
theorem hasB_succ (r : List Nat) (x : Nat) {k : Nat} (h : k < r.length) : hasB r x (k + 1) = (hasB r x k || decide (r.getD k 0 = x)) := by
  rw [hasB, hasB, List.take_succ_eq_append_getElem h, List.getD_eq_getElem?_getD, List.getElem?_eq_getElem h]
  rw [Bool.eq_iff_iff]
  simp only [decide_eq_true_eq, Bool.or_eq_true, List.mem_append, List.mem_singleton, Option.getD_some]
  rw [eq_comm (a := x)]
set_option maxRecDepth 100000 in
set_option maxHeartbeats 2000000 in
theorem takes_any (v : Value) (xs : List Int) (n : Nat) (w : World) (hR : Reads w v (iv xs)) (hx : ∀ i, i < xs.length → -9223372036854775808 ≤ xs.getD i 0 ∧ xs.getD i 0 ≤ 9223372036854775807) (hl : xs.length ≤ 50) (h1 : 1 ≤ n) (h2 : n ≤ 1000) :
    Calls Tryd.prog 26 #[v, .int .i64 (n : Int)] w (GivesN w n) := by
  obtain ⟨i0, hi, hz0, hz1, hz2⟩ := info_parts Tryd.infoI
  have hlen := fun W => hR.len_run (P := Tryd.prog) Tryd.underlying39 3 W
  rw [iv_length] at hlen
  have hxs := Lib.hid hx
  clear hx
  go_enter Tryd.func26, Tryd.ntmps26
  go_wp2
  go_loopw [5, 6, 7, 8, 9] (fun u i _ _ _ wr => ∃ (k : Nat) (r : List Nat), k ≤ xs.length ∧ i = .int .i64 (k : Int) ∧ Own wr w.heap.size 3 u (nv r) ∧ Hid (r.Nodup) ∧ Hid (∀ x ∈ r, x < n) ∧ r.length ≤ k ∧ Below w.heap.size w wr) (fun _ i _ _ _ _ => xs.length - (intOf i).toNat)
  case atStart => exact ⟨0, [], by omega, rfl, Own.nil _ _ _, List.nodup_nil, (fun x hx => by cases hx), by simp, Below.refl _ _⟩
  case round =>
    obtain ⟨k, r, hk, rfl, hown, hnd, hlt, hrl, hbel⟩ := hrel
    obtain ⟨u, rfl⟩ : ∃ v, v = u5 := ⟨_, rfl⟩
    by_cases hkx : k < xs.length
    · have b1 : (k : Int) < (xs.length : Int) := by omega
      obtain ⟨hp1, hp2⟩ := hxs.out k hkx
      obtain ⟨p, hp, hpick⟩ := pick_nat (xs.getD k 0) (n : Int) hp1 hp2 (by omega) (by omega)
      have hul := fun W => (hown.reads).len_run (P := Tryd.prog) Tryd.underlying39 3 W
      rw [nv_length] at hul
      rcases hR.below hbel with ⟨_, e⟩ | ⟨b, off, cap, rfl, hb, hc⟩
      · have := congrArg List.length e; rw [iv_length, List.length_nil] at this; omega
      have hck := hc k (by rw [iv_length]; exact hkx)
      rw [iv_getD xs hkx] at hck
      have hxl : ((iv xs).length : Int) = (xs.length : Int) := by rw [iv_length]
      have b1' : (k : Int) < ((iv xs).length : Int) := by rw [iv_length]; exact b1
      clear hxl hc
      generalize xs.getD k 0 = xk at *
      obtain ⟨wo, rfl⟩ : ∃ wo : World, wo = wr := ⟨_, rfl⟩
      go_wp2_with (fail)
      refine (hpick _).mono ?_
      rintro e wq ⟨rfl, rfl⟩
      go_wp2_with (fail)
      go_loopw [8, 9] (fun h j wr => ∃ q : Nat, q ≤ r.length ∧ j = .int .i64 (q : Int) ∧ h = .bool (hasB r p q) ∧ wo = wr) (fun _ j _ => r.length - (intOf j).toNat)
      case atStart => exact ⟨0, by omega, rfl, by simp [hasB], rfl⟩
      case round =>
        obtain ⟨q, hq, rfl, rfl, rfl⟩ := hrel
        by_cases hqr : q < r.length
        · have b2 : (q : Int) < (r.length : Int) := by omega
          have hs := hasB_succ r p hqr
          obtain ⟨g, ucap, hu, hg1, hg2⟩ := hown.form (by rw [nv_length]; omega)
          rw [nv_length] at hu
          subst hu
          have hcq := hown.cell (i := q) (by rw [nv_length]; exact hqr)
          rw [nv_getD r hqr] at hcq
          cases hB : hasB r p q with
          | true =>
            rw [hB, Bool.true_or] at hs
            have hs' := Lib.hid hs
            clear hs hB
            go_wp2
            go_roundw
            case rel => exact ⟨q + 1, by omega, by go_num, by rw [hs'.out], (by first | rfl | trivial)⟩
            case measure => simp [intOf]; omega
          | false =>
            rw [hB, Bool.false_or] at hs
            have hs' := Lib.hid hs
            by_cases he : r.getD q 0 = p
            · have e1 : (((r.getD q 0 : Nat) : Int) == (p : Int)) = true := by rw [beq_iff_eq]; omega
              have hd : Hid (decide (r.getD q 0 = p) = true) := Lib.hid (by simpa using he)
              generalize r.getD q 0 = rq at *
              clear hs hB he
              go_wp2
              go_roundw
              case rel => exact ⟨q + 1, by omega, by go_num, by rw [hs'.out, hd.out], (by first | rfl | trivial)⟩
              case measure => simp [intOf]; omega
            · have e1 : (((r.getD q 0 : Nat) : Int) == (p : Int)) = false := by rw [beq_eq_false_iff_ne]; omega
              have hd : Hid (decide (r.getD q 0 = p) = false) := Lib.hid (by simpa using he)
              generalize r.getD q 0 = rq at *
              clear hs hB he
              go_wp2
              go_roundw
              case rel => exact ⟨q + 1, by omega, by go_num, by rw [hs'.out, hd.out], (by first | rfl | trivial)⟩
              case measure => simp [intOf]; omega
        · have e : q = r.length := by omega
          subst e
          cases hB : hasB r p r.length with
          | true =>
            clear hB
            go_wp2
            go_roundw
            case rel => exact ⟨k + 1, r, by omega, by go_num, hown, hnd, hlt, by omega, hbel⟩
            case measure => simp [intOf]; omega
          | false =>
            have hni : p ∉ r := by
              rw [hasB, List.take_length] at hB; simpa using hB
            have hnd' : Hid ((r ++ [p]).Nodup) := Lib.hid (by
              rw [List.nodup_append]
              exact ⟨hnd, List.nodup_cons.2 ⟨by simp, List.nodup_nil⟩, fun a ha b hb => by simp at hb; subst hb; intro e; subst e; exact hni ha⟩)
            have hlt' : Hid (∀ x ∈ r ++ [p], x < n) := Lib.hid (fun x hx => by
              rw [List.mem_append] at hx
              rcases hx with hx | hx
              · exact hlt x hx
              · simp at hx; omega)
            obtain ⟨v', w', hap, hown4, hb4⟩ := Own.push (P := Tryd.prog) (T := 39) Tryd.underlying39 hi hz0 hz1 hz2 rfl hown (.int .i64 (p : Int)) rfl hbel.size (by rw [nv_length]; omega) (by rw [nv_length]; omega)
            rw [← nv_snoc] at hown4
            clear hB hni
            go_wp2_with (at_builtin; refine wpList_append_run hap _ _ rfl rfl rfl rfl rfl ?_)
            go_roundw
            case rel => exact ⟨k + 1, r ++ [p], by omega, by go_num, hown4, hnd', hlt', by simp; omega, hbel.trans hb4⟩
            case measure => simp [intOf]; omega
    · have e : k = xs.length := by omega
      subst e
      go_wp2
      go_ret
      exact ⟨u, r, rfl, hown, hnd, hlt, by omega, hbel⟩
end Go.Proofs.YtocaboamlagaaaaDoor
