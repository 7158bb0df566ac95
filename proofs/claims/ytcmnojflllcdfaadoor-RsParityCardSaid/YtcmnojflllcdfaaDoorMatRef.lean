/- mat: the document's own Right, Identity, Cauchy, scaled. -/
import Derived.Test.YtcmnojflllcdfaaDoorMatTakes
namespace Go.Proofs.YtcmnojflllcdfaaDoor
open Go.RowKit
set_option linter.unusedVariables false
set_option linter.unusedSimpArgs false

set_option maxRecDepth 100000 in
set_option maxHeartbeats 2000000 in
theorem rright_any (v : Value) (l : List ByteArray) (w : World) (h : Reads w v (tx l)) (hF : Fits l) :
    Calls Tryd.prog 47 #[v] w (Says w (.bool (mR l))) := by
  have hn := hF.n
  by_cases h1 : 1 ≤ l.length
  · by_cases h2 : l.length ≤ 16
    · rcases h.srow with ⟨_, rfl⟩ | ⟨b, off, cap, rfl, hS⟩
      · simp at h1
      have hc0 := hS.cell 0 (by omega)
      have hm0 := hF.m 0 (by omega)
      rw [Nat.add_zero] at hc0
      obtain ⟨s0, hs0⟩ : ∃ r, l.getD 0 ⟨#[]⟩ = r := ⟨_, rfl⟩
      have hs0' := Lib.hid hs0
      rw [hs0] at hc0 hm0
      have t1 : decide ((l.length : Int) < 1) = false := by simp; omega
      have t2 : decide (16 < (l.length : Int)) = false := by simp; omega
      by_cases h3 : 1 ≤ s0.size
      · have t3 : decide ((s0.size : Int) < 1) = false := by simp; omega
        by_cases h4 : s0.size ≤ 4096
        · have t4 : decide (4096 < (s0.size : Int)) = false := by simp; omega
          clear hs0
          go_enter Tryd.func47, Tryd.ntmps47
          go_wp2
          go_loopw [3] (fun i wr => ∃ k : Nat, k ≤ l.length ∧ i = .int .i64 (k : Int) ∧ Below w.heap.size w wr ∧ Hid (∀ j, j < k → (l.getD j ⟨#[]⟩).size = s0.size)) (fun i _ => l.length - (intOf i).toNat)
          case atStart => exact ⟨0, by omega, rfl, Below.refl _ _, Lib.hid (fun j hj => by omega)⟩
          case round =>
            obtain ⟨k, hk, rfl, hbel, hj⟩ := hrel
            by_cases hlt : k < l.length
            · have hc := (hS.below hbel).cell k hlt
              have hc0' := (hS.below hbel).cell 0 (by omega)
              rw [Nat.add_zero, hs0'.out] at hc0'
              have hmk := hF.m k hlt
              have b1 : (k : Int) < (l.length : Int) := by omega
              by_cases he : (l.getD k ⟨#[]⟩).size = s0.size
              · have hj' : Hid (∀ j, j < k + 1 → (l.getD j ⟨#[]⟩).size = s0.size) := Lib.hid (fun j hjk => by
                  by_cases e : j = k
                  · subst e; exact he
                  · exact hj.out j (by omega))
                have e3 : ((((l.getD k ⟨#[]⟩).size : Nat) : Int) != ((s0.size : Nat) : Int)) = false := by rw [he]; exact bne_self_eq_false _
                generalize l.getD k ⟨#[]⟩ = rk at *
                clear he hc0
                go_wp2
                go_quiet (fail)
                go_wp2
                go_roundw
                case rel => exact ⟨k + 1, by omega, by go_num, belowN hbel _, hj'⟩
                case measure => simp [intOf]; omega
              · have hz : Hid (mR l = false) := Lib.hid (by
                  unfold mR; rw [Bool.and_eq_false_iff]; right
                  rw [List.all_eq_false]
                  refine ⟨l.getD k ⟨#[]⟩, ?_, ?_⟩
                  · rw [List.getD_eq_getElem?_getD, List.getElem?_eq_getElem hlt]; exact List.getElem_mem hlt
                  · rw [hs0'.out]; simpa using he)
                have e3 : ((((l.getD k ⟨#[]⟩).size : Nat) : Int) != ((s0.size : Nat) : Int)) = true := by rw [bne_iff_ne]; omega
                generalize l.getD k ⟨#[]⟩ = rk at *
                clear he hc0
                go_wp2
                go_quiet (fail)
                go_wp2
                go_ret
                exact ⟨by rw [hz.out]; rfl, belowN hbel _⟩
            · have e : k = l.length := by omega
              subst e
              have hz : Hid (mR l = true) := Lib.hid (by
                have ha : l.all (fun r => r.size == (l.getD 0 ⟨#[]⟩).size) = true := by
                  rw [List.all_eq_true]; intro r hr
                  obtain ⟨j, hj1, rfl⟩ := List.getElem_of_mem hr
                  have := hj.out j hj1
                  rw [List.getD_eq_getElem?_getD, List.getElem?_eq_getElem hj1] at this
                  rw [hs0'.out]; simpa using this
                unfold mR; rw [ha, Bool.and_true, hs0'.out]; simp; omega)
              go_wp2
              go_ret
              exact ⟨by rw [hz.out]; rfl, hbel⟩
        · have t4 : decide (4096 < (s0.size : Int)) = true := by simp; omega
          have hz : Hid (mR l = false) := Lib.hid (by unfold mR; rw [hs0, decide_eq_false (by omega)]; rfl)
          clear hs0
          go_enter Tryd.func47, Tryd.ntmps47
          go_wp2
          go_ret
          exact ⟨by rw [hz.out]; rfl, Below.refl _ _⟩
      · have t3 : decide ((s0.size : Int) < 1) = true := by simp; omega
        have hz : Hid (mR l = false) := Lib.hid (by unfold mR; rw [hs0, decide_eq_false (by omega)]; rfl)
        clear hs0
        go_enter Tryd.func47, Tryd.ntmps47
        go_wp2
        go_ret
        exact ⟨by rw [hz.out]; rfl, Below.refl _ _⟩
    · have hz : Hid (mR l = false) := Lib.hid (by unfold mR; rw [decide_eq_false (by omega)]; rfl)
      have hlen := fun W => h.len_run (P := Tryd.prog) Tryd.underlying22 3 W
      rw [List.length_map] at hlen
      have t1 : decide ((l.length : Int) < 1) = false := by simp; omega
      have t2 : decide (16 < (l.length : Int)) = true := by simp; omega
      go_enter Tryd.func47, Tryd.ntmps47
      go_wp2
      go_ret
      exact ⟨by rw [hz.out]; rfl, Below.refl _ _⟩
  · have hz : Hid (mR l = false) := Lib.hid (by unfold mR; rw [decide_eq_false (by omega)]; rfl)
    have hlen := fun W => h.len_run (P := Tryd.prog) Tryd.underlying22 3 W
    rw [List.length_map] at hlen
    have t1 : decide ((l.length : Int) < 1) = true := by simp; omega
    go_enter Tryd.func47, Tryd.ntmps47
    go_wp2
    go_ret
    exact ⟨by rw [hz.out]; rfl, Below.refl _ _⟩
theorem firstL_all (f : Nat → ByteArray) (n : Nat) : firstL f n = (List.range n).map f := rfl
theorem id_line (n k : Nat) (h : k < n) : (List.replicate n (0 : UInt8)).set k 1 = (List.range n).map (idEl k) := by
  apply List.ext_getElem
  · simp
  · intro j h1 h2
    rw [List.getElem_set]
    simp only [List.getElem_replicate, List.getElem_map, List.getElem_range, idEl]
set_option maxRecDepth 100000 in
set_option maxHeartbeats 2000000 in
theorem ridentity_any (n : Int) (w : World) (h1 : n ≤ 9223372036854775807) :
    Calls Tryd.prog 36 #[.int .i64 n] w (GivesL w (idL n) (idE n)) := by
  by_cases hlo : n < 1
  · have hz : Hid (fitsB n = false) := Lib.hid (by simp [fitsB]; omega)
    have t1 : decide (n < 1) = true := by simpa using hlo
    clear hlo
    go_enter Tryd.func36, Tryd.ntmps36
    go_wp2
    go_ret2
    exact ⟨.slice none 0 0, by rw [idE, hz.out]; rfl, by rw [idL, hz.out]; exact Own.nil _ _ _, Below.refl _ _⟩
  · have t1 : decide (n < 1) = false := by simpa using hlo
    by_cases hhi : 16 < n
    · have hz : Hid (fitsB n = false) := Lib.hid (by simp [fitsB]; omega)
      have t2 : decide (16 < n) = true := by simpa using hhi
      clear hlo hhi
      go_enter Tryd.func36, Tryd.ntmps36
      go_wp2
      go_ret2
      exact ⟨.slice none 0 0, by rw [idE, hz.out]; rfl, by rw [idL, hz.out]; exact Own.nil _ _ _, Below.refl _ _⟩
    · have t2 : decide (16 < n) = false := by simpa using hhi
      have hz : Hid (fitsB n = true) := Lib.hid (by simp [fitsB]; omega)
      obtain ⟨n, rfl⟩ := Int.eq_ofNat_of_zero_le (show 0 ≤ n by omega)
      obtain ⟨i0, hi, hz0, hz1, hz2⟩ := info_parts Tryd.infoS
      obtain ⟨i1, hi1, hy0, hy1, hy2⟩ := info_parts Tryd.info5
      go_enter Tryd.func36, Tryd.ntmps36
      go_wp2
      go_loopw [4, 5, 6] (fun u i _ wr => ∃ k : Nat, k ≤ n ∧ i = .int .i64 (k : Int) ∧ Own wr w.heap.size 9 u (tx (firstL (fun i => lineOf ((List.range n).map (idEl i))) k)) ∧ Below w.heap.size w wr) (fun _ i _ _ => n - (intOf i).toNat)
      case atStart => exact ⟨0, by omega, rfl, Own.nil _ _ _, Below.refl _ _⟩
      case round =>
        obtain ⟨k, hk, rfl, hown, hbel⟩ := hrel
        obtain ⟨u, rfl⟩ : ∃ v, v = u4 := ⟨_, rfl⟩
        by_cases hlt : k < n
        · have b1 : (k : Int) < (n : Int) := by omega
          obtain ⟨w2, hmk2, hown2, hbel2⟩ := Own.make_run (P := Tryd.prog) (T := 41) Tryd.underlying41 hi1 hy0 hy1 hy2 rfl wr n (by omega) (by omega)
          have hnx := Lib.hid (firstL_succ (fun i => lineOf ((List.range n).map (idEl i))) k)
          have hfl := firstL_length (fun i => lineOf ((List.range n).map (idEl i))) k
          have hfz := hown2.frozen k
          have hcl := hown2.cell (i := k) (by simpa using hlt)
          have hset := hown2.set k (.int .u8 1)
          have hline : (List.replicate n (Value.int .u8 0)).set k (.int .u8 1) = ((List.range n).map (idEl k)).map byteVal := by
            rw [← id_line n k hlt, List.map_set]; simp [byteVal]
          rw [hline] at hset
          have hst := own_back hset.o
          have hw2 := hown2.lt
          have hown3 := (hown.after hbel2).setOther (a := ⟨wr.heap.size, k, none⟩) (u := .int .u8 1) (by
            intro e
            have := (hown.o.lt _ e).2
            simp at this)
          have hb3 : Below w.heap.size w (w2.setCell ⟨wr.heap.size, k, none⟩ (.int .u8 1)) := (hbel.trans (hbel2.mono hbel.size)).setCell hbel.size _
          obtain ⟨v', w', hap, hown4, hb4⟩ := Own.push (P := Tryd.prog) (T := 22) Tryd.underlying22 hi hz0 hz1 hz2 rfl hown3 (.string (lineOf ((List.range n).map (idEl k)))) rfl hb3.size (by rw [List.length_map, hfl]; omega) (by rw [List.length_map, hfl]; omega)
          rw [show (w2.setCell ⟨wr.heap.size, k, none⟩ (.int .u8 1)).heap.size = w2.heap.size by simp] at hap
          have hline' := Lib.hid hline
          clear hline
          go_wp2_with (at_builtin; refine wpList_append_run hap _ _ rfl rfl rfl rfl rfl ?_)
          go_roundw
          case rel => exact ⟨k + 1, by omega, by go_num, by rw [hnx.out]; exact hown4, hb3.trans hb4⟩
          case measure => simp [intOf]; omega
        · have e : k = n := by omega
          subst e
          go_wp2
          go_ret2
          exact ⟨u, by rw [idE, hz.out]; rfl, by rw [idL, hz.out]; exact hown, hbel⟩
set_option maxRecDepth 100000 in
set_option maxHeartbeats 2000000 in
theorem rcauchy_bad (k m : Int) (w : World) (h : fitsB k = false ∨ fitsB m = false) :
    Calls Tryd.prog 29 #[.int .i64 k, .int .i64 m] w (GivesL w (cyL k m) (cyE k m)) := by
  have hz : Hid ((fitsB k && fitsB m) = false) := Lib.hid (by rcases h with h | h <;> simp [h])
  by_cases a1 : k < 1
  · have t1 : decide (k < 1) = true := by simpa using a1
    clear a1 h
    go_enter Tryd.func29, Tryd.ntmps29
    go_wp2
    go_ret2
    exact ⟨.slice none 0 0, by rw [cyE, hz.out]; rfl, by rw [cyL, hz.out]; exact Own.nil _ _ _, Below.refl _ _⟩
  · have t1 : decide (k < 1) = false := by simpa using a1
    by_cases a2 : 16 < k
    · have t2 : decide (16 < k) = true := by simpa using a2
      clear a1 a2 h
      go_enter Tryd.func29, Tryd.ntmps29
      go_wp2
      go_ret2
      exact ⟨.slice none 0 0, by rw [cyE, hz.out]; rfl, by rw [cyL, hz.out]; exact Own.nil _ _ _, Below.refl _ _⟩
    · have t2 : decide (16 < k) = false := by simpa using a2
      by_cases a3 : m < 1
      · have t3 : decide (m < 1) = true := by simpa using a3
        clear a1 a2 a3 h
        go_enter Tryd.func29, Tryd.ntmps29
        go_wp2
        go_ret2
        exact ⟨.slice none 0 0, by rw [cyE, hz.out]; rfl, by rw [cyL, hz.out]; exact Own.nil _ _ _, Below.refl _ _⟩
      · have t3 : decide (m < 1) = false := by simpa using a3
        have a4 : 16 < m := by
          rcases h with h | h
          · simp [fitsB] at h; omega
          · simp [fitsB] at h; omega
        have t4 : decide (16 < m) = true := by simpa using a4
        clear a1 a2 a3 a4 h
        go_enter Tryd.func29, Tryd.ntmps29
        go_wp2
        go_ret2
        exact ⟨.slice none 0 0, by rw [cyE, hz.out]; rfl, by rw [cyL, hz.out]; exact Own.nil _ _ _, Below.refl _ _⟩
set_option maxRecDepth 100000 in
set_option maxHeartbeats 2000000 in
theorem rcauchy_ok (k m : Nat) (w : World) (k1 : 1 ≤ k) (k2 : k ≤ 16) (m1 : 1 ≤ m) (m2 : m ≤ 16) :
    Calls Tryd.prog 29 #[.int .i64 (k : Int), .int .i64 (m : Int)] w (GivesL w (mkM (cyEl m) m k) 0) := by
  obtain ⟨i0, hi, hz0, hz1, hz2⟩ := info_parts Tryd.infoS
  obtain ⟨i1, hi1, hy0, hy1, hy2⟩ := info_parts Tryd.info5
  go_enter Tryd.func29, Tryd.ntmps29
  go_wp2
  go_loopw [6, 7, 8, 9, 10, 11] (fun u i _ _ _ _ wr => ∃ q : Nat, q ≤ m ∧ i = .int .i64 (q : Int) ∧ Own wr w.heap.size 9 u (tx (firstL (fun i => lineOf ((List.range k).map (cyEl m i))) q)) ∧ Below w.heap.size w wr) (fun _ i _ _ _ _ _ => m - (intOf i).toNat)
  case atStart => exact ⟨0, by omega, rfl, Own.nil _ _ _, Below.refl _ _⟩
  case round =>
    obtain ⟨q, hq, rfl, hown, hbel⟩ := hrel
    obtain ⟨u, rfl⟩ : ∃ v, v = u6 := ⟨_, rfl⟩
    by_cases hlt : q < m
    · have b1 : (q : Int) < (m : Int) := by omega
      have hnx := Lib.hid (firstL_succ (fun i => lineOf ((List.range k).map (cyEl m i))) q)
      have hfl := firstL_length (fun i => lineOf ((List.range k).map (cyEl m i))) q
      obtain ⟨wo, rfl⟩ : ∃ wo : World, wo = wr := ⟨_, rfl⟩
      go_wp2
      go_loopw [8, 9, 10, 11] (fun b j _ _ wr => ∃ z : Nat, z ≤ k ∧ j = .int .i64 (z : Int) ∧ Own wr wo.heap.size 5 b (((List.range z).map (cyEl m q)).map byteVal) ∧ Below wo.heap.size wo wr) (fun _ j _ _ _ => k - (intOf j).toNat)
      case atStart => exact ⟨0, by omega, rfl, Own.nil _ _ _, Below.refl _ _⟩
      case round =>
        obtain ⟨z, hz, rfl, hob, hbz⟩ := hrel
        obtain ⟨b, rfl⟩ : ∃ v, v = u8 := ⟨_, rfl⟩
        by_cases hlz : z < k
        · have d1 : (z : Int) < (k : Int) := by omega
          have hx := Gf.xor_lt (x := q) (y := m + z) (by omega) (by omega)
          have hp := xor_pos' (a := q) (b := m + z) (by omega)
          have hcy : Hid ((((cyEl m q z).toNat : Nat) : Int) = ((Gf.gi (q ^^^ (m + z)) : Nat) : Int)) := Lib.hid (by rw [cyEl_toNat])
          have u1 := u8_wrap (q : Int) (by omega) (by omega)
          have u2 := u8_wrap ((m : Int) + (z : Int)) (by omega) (by omega)
          have hxx := xor8 (q : Int) ((m : Int) + (z : Int)) (by omega) (by omega) (by omega) (by omega)
          rw [show (q : Int).toNat = q by omega, show ((m : Int) + (z : Int)).toNat = m + z by omega] at hxx
          have hsn : Hid (((List.range (z + 1)).map (cyEl m q)).map byteVal = ((List.range z).map (cyEl m q)).map byteVal ++ [.int .u8 (((cyEl m q z).toNat : Nat) : Int)]) := Lib.hid (by rw [List.range_succ]; simp [byteVal])
          generalize q ^^^ (m + z) = x at *
          have hinv := rinv_some x wr (by omega) hx
          have hgl := Gf.gi_lt x
          obtain ⟨v', w', hap, hown4, hb4⟩ := Own.push (P := Tryd.prog) (T := 41) Tryd.underlying41 hi1 hy0 hy1 hy2 rfl hob (.int .u8 ((Gf.gi x : Nat) : Int)) rfl hbz.size (by simp; omega) (by simp; omega)
          clear hp
          go_wp2_with (first | (go_at_call 46; ((with_reducible refine hinv.mono ?_); rintro e w3 ⟨rfl, rfl⟩)) | (at_builtin; refine wpList_append_run hap _ _ rfl rfl rfl rfl rfl ?_))
          go_roundw
          case rel => exact ⟨z + 1, by omega, by go_num, by rw [hsn.out, hcy.out]; exact hown4, hbz.trans hb4⟩
          case measure => simp [intOf]; omega
        · have e : z = k := by omega
          subst e
          have hst := own_back hob.o
          have hown3 := hown.after hbz
          have hb3 : Below w.heap.size w wr := hbel.trans (hbz.mono hbel.size)
          obtain ⟨v', w', hap, hown4, hb4⟩ := Own.push (P := Tryd.prog) (T := 22) Tryd.underlying22 hi hz0 hz1 hz2 rfl hown3 (.string (lineOf ((List.range z).map (cyEl m q)))) rfl hb3.size (by rw [List.length_map, hfl]; omega) (by rw [List.length_map, hfl]; omega)
          go_wp2_with (at_builtin; refine wpList_append_run hap _ _ rfl rfl rfl rfl rfl ?_)
          go_roundw
          case rel => exact ⟨q + 1, by omega, by go_num, by rw [hnx.out]; exact hown4, hb3.trans hb4⟩
          case measure => simp [intOf]; omega
    · have e : q = m := by omega
      subst e
      go_wp2
      go_ret2
      exact ⟨u, rfl, hown, hbel⟩
theorem rcauchy_any (k m : Int) (w : World) :
    Calls Tryd.prog 29 #[.int .i64 k, .int .i64 m] w (GivesL w (cyL k m) (cyE k m)) := by
  by_cases h : fitsB k = true ∧ fitsB m = true
  · obtain ⟨a, b⟩ := h
    have h1 : 1 ≤ k ∧ k ≤ 16 := by simpa [fitsB] using a
    have h2 : 1 ≤ m ∧ m ≤ 16 := by simpa [fitsB] using b
    rw [cyL, cyE, a, b]
    obtain ⟨k, rfl⟩ := Int.eq_ofNat_of_zero_le (show 0 ≤ k by omega)
    obtain ⟨m, rfl⟩ := Int.eq_ofNat_of_zero_le (show 0 ≤ m by omega)
    exact rcauchy_ok k m w (by omega) (by omega) (by omega) (by omega)
  · exact rcauchy_bad k m w (by
      cases h1 : fitsB k
      · exact .inl rfl
      · cases h2 : fitsB m
        · exact .inr rfl
        · exact absurd ⟨h1, h2⟩ h)
set_option maxRecDepth 100000 in
set_option maxHeartbeats 2000000 in
theorem scaled_any (c : Nat) (x : ByteArray) (w : World) (hc : c < 256) (hx : x.size ≤ 1000000) :
    Calls Tryd.prog 53 #[.int .u8 (c : Int), .string x] w (Says w (.string (mulAdd (zrow x.size) c x))) := by
  obtain ⟨i1, hi1, hy0, hy1, hy2⟩ := info_parts Tryd.info5
  obtain ⟨w3, hmk3, o3, b3⟩ := Own.make_run (P := Tryd.prog) (T := 41) Tryd.underlying41 hi1 hy0 hy1 hy2 rfl w x.size (by omega) (by omega)
  have hst := own_back (w := w3) (B := w.heap.size) (n := (List.replicate x.size (Value.int .u8 0)).length) (v := .slice (some ⟨w.heap.size, 0, none⟩) x.size x.size) (l := List.replicate x.size 0) (by rw [show (List.replicate x.size (0 : UInt8)).map byteVal = List.replicate x.size (.int .u8 0) by simp [byteVal]]; exact o3.o)
  rw [show lineOf (List.replicate x.size 0) = zrow x.size from rfl] at hst
  have hma := fun W => rmuladd_nat (zrow x.size) x c W hc (by rw [zrow_size]; omega) (by omega)
  go_enter Tryd.func53, Tryd.ntmps53
  go_wp2_with (fail)
  refine (hma _).mono ?_
  rintro e w4 ⟨rfl, b4⟩
  go_wp2_with (fail)
  go_ret
  exact ⟨rfl, below_c b3 b4⟩
end Go.Proofs.YtcmnojflllcdfaaDoor
