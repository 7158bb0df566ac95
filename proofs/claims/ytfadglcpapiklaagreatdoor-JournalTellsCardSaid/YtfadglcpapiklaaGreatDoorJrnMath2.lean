/- journal: what a Put makes of a rack that has power. -/
import Derived.Test.YtfadglcpapiklaaGreatDoorJrnMath1
namespace Go.Proofs.YtfadglcpapiklaaGreatDoor
open Go.RowKit
open Rc
set_option linter.unusedVariables false
set_option linter.unusedSimpArgs false
set_option maxRecDepth 100000

/-- What a Put makes of a member that is there. -/
def putG (i a : Nat) (h : ByteArray) (b : List ByteArray) (j : Nat) (M : Mst) : Mst := flM (wsG i [h] a j (flM (wsG i b (a + 1) j M)))
/-- What a sector of a member holds: what was written last, else what lasts. -/
def topM (M : Mst) (c : Nat) : ByteArray := lastOf (M.V (c : Int)) (M.L.getD c zero128)
section
variable {n sec i a j : Nat} {M : Mst} {h : ByteArray} {b : List ByteArray} {R : Rk} {l : List Int}
theorem top_wr {s : ByteArray} (h1 : M.fd = false) (h2 : a < M.L.length) (h3 : s.size = 128) (c : Nat) : topM (wrM M (a : Int) s) c = if c = a then s else topM M c := by
  rw [wrM_eq h1 h2 h3]
  unfold topM
  by_cases hc : c = a
  · subst hc
    rw [if_pos rfl]
    show lastOf (updZ M.V (c : Int) _ (c : Int)) _ = _
    unfold updZ
    rw [if_pos rfl]
    unfold lastOf
    simp [List.getLastD_eq_getLast?]
  · rw [if_neg hc]
    show lastOf (updZ M.V (a : Int) _ (c : Int)) _ = _
    unfold updZ
    rw [if_neg (by omega)]
theorem top_ws (i1 : 1 ≤ i) (i2 : i ≤ 65535) (hj : j ≤ 6) : ∀ (ps : List ByteArray) (a : Nat) (M : Mst), M.fd = false → a + ps.length ≤ M.L.length → M.L.length ≤ 256 → (∀ p ∈ ps, p.size ≤ 120) → ∀ c, topM (wsG i ps a j M) c = if a ≤ c ∧ c < a + ps.length then secS i j c (ps.getD (c - a) ⟨#[]⟩) else topM M c
  | [], a, M, _, _, _, _, c => by
    rw [if_neg (fun z => by have := z.2; simp at this; omega)]; rfl
  | p :: ps, a, M, h1, h2, h3, hz, c => by
    rw [List.length_cons] at h2
    have hm : Made i j a p := ⟨i1, i2, hj, by omega, hz p List.mem_cons_self⟩
    obtain ⟨e1, e2⟩ := wrM_L M (a : Int) (secS i j a p)
    have ih := top_ws i1 i2 hj ps (a + 1) (wrM M (a : Int) (secS i j a p)) (e2.trans h1) (by rw [e1]; omega) (by rw [e1]; exact h3) (fun q hq => hz q (List.mem_cons_of_mem _ hq)) c
    show topM (wsG i ps (a + 1) j (wrM M (a : Int) (secS i j a p))) c = _
    rw [ih, top_wr h1 (by omega) hm.sz c, List.length_cons]
    by_cases c1 : c = a
    · subst c1
      rw [if_neg (by omega), if_pos rfl, if_pos (by omega), Nat.sub_self, List.getD_cons_zero]
    · rw [if_neg c1]
      by_cases c2 : a + 1 ≤ c ∧ c < a + 1 + ps.length
      · rw [if_pos c2, if_pos (by omega), show c - a = (c - (a + 1)) + 1 by omega, List.getD_cons_succ]
      · rw [if_neg c2, if_neg (by omega)]
theorem top_fl (h1 : M.fd = false) {c : Nat} (hc : c < M.L.length) : topM (flM M) c = topM M c := by
  rw [flM_eq h1]
  unfold topM
  show lastOf (noV (c : Int)) ((flush M.L M.V).getD c zero128) = _
  rw [flush_get _ _ hc]
  rfl
theorem fl_L (h1 : M.fd = false) : (flM M).L.length = M.L.length ∧ (flM M).fd = false ∧ (flM M).V = noV := by rw [flM_eq h1]; exact ⟨flush_len _ _, rfl, rfl⟩
theorem putG_len (h1 : M.fd = false) : (putG i a h b j M).L.length = M.L.length ∧ (putG i a h b j M).fd = false ∧ (putG i a h b j M).V = noV := by
  obtain ⟨a1, a2⟩ := wsG_len i b (a + 1) j M
  obtain ⟨b1, b2, b3⟩ := fl_L (M := wsG i b (a + 1) j M) (a2.trans h1)
  obtain ⟨c1, c2⟩ := wsG_len i [h] a j (flM (wsG i b (a + 1) j M))
  obtain ⟨d1, d2, d3⟩ := fl_L (M := wsG i [h] a j (flM (wsG i b (a + 1) j M))) (c2.trans b2)
  exact ⟨by unfold putG; rw [d1, c1, b1, a1], d2, d3⟩
/-- What a sector holds behind a Put. -/
theorem putG_top (i1 : 1 ≤ i) (i2 : i ≤ 65535) (hj : j ≤ 6) (h1 : M.fd = false) (h2 : a + 1 + b.length ≤ M.L.length) (h3 : M.L.length ≤ 256) (hh : h.size ≤ 120) (hb : ∀ p ∈ b, p.size ≤ 120) {c : Nat} (hc : c < M.L.length) :
    topM (putG i a h b j M) c = if c = a then secS i j a h else if a + 1 ≤ c ∧ c < a + 1 + b.length then secS i j c (b.getD (c - (a + 1)) ⟨#[]⟩) else topM M c := by
  obtain ⟨a1, a2⟩ := wsG_len i b (a + 1) j M
  obtain ⟨b1, b2, b3⟩ := fl_L (M := wsG i b (a + 1) j M) (a2.trans h1)
  obtain ⟨c1, c2⟩ := wsG_len i [h] a j (flM (wsG i b (a + 1) j M))
  unfold putG
  rw [top_fl (c2.trans b2) (by rw [c1, b1, a1]; exact hc), top_ws i1 i2 hj [h] a _ b2 (by rw [b1, a1]; simp; omega) (by rw [b1, a1]; exact h3) (fun p hp => by rw [List.mem_singleton] at hp; rw [hp]; exact hh), top_fl (a2.trans h1) (by rw [a1]; exact hc), top_ws i1 i2 hj b (a + 1) M h1 (by omega) h3 hb]
  by_cases c1 : c = a
  · subst c1
    rw [if_pos (by simp), if_pos rfl, Nat.sub_self]; rfl
  · rw [if_neg (by simp; omega), if_neg c1]
/-- Who is left. -/
def aliveL (R : Rk) (l : List Int) : List Int := l.filter fun x => !(R.M x.toNat).fd
theorem mem_alive {x : Int} : x ∈ aliveL R l ↔ x ∈ l ∧ (R.M x.toNat).fd = false := by
  unfold aliveL; rw [List.mem_filter]; simp
theorem mem_dead {x : Int} : x ∈ deadL R l ↔ x ∈ l ∧ (R.M x.toNat).fd = true := by
  unfold deadL; rw [List.mem_filter]
theorem keep_dead : keepL l (deadL R l) = aliveL R l := by
  unfold keepL aliveL
  refine List.filter_congr fun x hx => ?_
  cases hd : (R.M x.toNat).fd with
  | true => rw [decide_eq_true (mem_dead.2 ⟨hx, hd⟩)]
  | false => rw [decide_eq_false (fun z => by have := (mem_dead.1 z).2; rw [hd] at this; cases this)]
theorem keep_alive : keepL l (aliveL R l) = deadL R l := by
  unfold keepL deadL
  refine List.filter_congr fun x hx => ?_
  cases hd : (R.M x.toNat).fd with
  | true => rw [decide_eq_false (fun z => by have := (mem_alive.1 z).2; rw [hd] at this; cases this)]; rfl
  | false => rw [decide_eq_true (mem_alive.2 ⟨hx, hd⟩)]; rfl
theorem keep_nilS : keepL l [] = l := keep_none fun x _ h => by cases h
theorem toL_fd {G : Nat → Mst → Mst} (hG : ∀ j, (R.M j).fd = false → (G j (R.M j)).fd = false) (j : Nat) : (toL G l R.M j).fd = (R.M j).fd := by
  unfold toL
  split
  · rename_i z; rw [hG j z.2, z.2]
  · rfl
theorem dead_alive (M' : Nat → Mst) (o : Bool) (x y : Int) (h : ∀ j, (M' j).fd = (R.M j).fd) : deadL ⟨M', o, x, y⟩ (aliveL R l) = [] := by
  unfold deadL
  rw [List.filter_eq_nil_iff]
  intro z hz
  have := (mem_alive.1 hz).2
  show ¬ (M' z.toNat).fd = true
  rw [h, this]; decide
/-- A Put: who has failed is told, all others have the record. -/
theorem put_up (hU : Up n sec R) (i1 : 1 ≤ i) (i2 : i ≤ 65535) (hs : sec ≤ 256) (hb0 : b ≠ []) (ha : a + 1 + b.length ≤ sec) (hh : h.size ≤ 120) (hb : ∀ p ∈ b, p.size ≤ 120) (hl : ∀ x ∈ l, 0 ≤ x ∧ x < (n : Int)) (hnd : l.Nodup) :
    ∃ ac, puX n (i : Int) a h b R l = (⟨toL (putG i a h b) l R.M, false, ac, 0⟩, deadL R l, 0) ∧ Up n sec ⟨toL (putG i a h b) l R.M, false, ac, 0⟩ ∧ ((∀ x ∈ l, (R.M x.toNat).fd = false) → ac = R.acts + (l.length : Int) * ((b.length : Int) + 3)) := by
  have hl2 : ∀ x ∈ aliveL R l, 0 ≤ x ∧ x < (n : Int) := fun x hx => hl x (mem_alive.1 hx).1
  have hnd2 : (aliveL R l).Nodup := hnd.filter _
  obtain ⟨ac1, e1, u1, c1⟩ := ea_loc (loc_ws (n := n) (sec := sec) i1 i2 hb0 ha hs hb) l R [] hU hl hnd
  have f1 : ∀ j, (toL (wsG i b (a + 1)) l R.M j).fd = (R.M j).fd := toL_fd fun j hj => (wsG_len i b (a + 1) j _).2.trans hj
  obtain ⟨ac2, e2, u2, c2⟩ := ea_loc (loc_fl (n := n) (sec := sec)) (aliveL R l) ⟨toL (wsG i b (a + 1)) l R.M, false, ac1, 0⟩ [] u1 hl2 hnd2
  have f2 : ∀ j, (toL (fun _ M => flM M) (aliveL R l) (toL (wsG i b (a + 1)) l R.M) j).fd = (R.M j).fd := fun j => (toL_fd (R := ⟨toL (wsG i b (a + 1)) l R.M, false, ac1, 0⟩) (fun j hj => (fl_L hj).2.1) j).trans (f1 j)
  obtain ⟨ac3, e3, u3, c3⟩ := ea_loc (loc_ws (n := n) (sec := sec) (ps := [h]) (a := a) i1 i2 (by simp) (by simp; omega) hs (fun p hp => by rw [List.mem_singleton] at hp; rw [hp]; exact hh)) (aliveL R l) ⟨_, false, ac2, 0⟩ [] u2 hl2 hnd2
  have f3 : ∀ j, (toL (wsG i [h] a) (aliveL R l) (toL (fun _ M => flM M) (aliveL R l) (toL (wsG i b (a + 1)) l R.M)) j).fd = (R.M j).fd := fun j => (toL_fd (R := ⟨_, false, ac2, 0⟩) (fun j hj => (wsG_len i [h] a j _).2.trans hj) j).trans (f2 j)
  obtain ⟨ac4, e4, u4, c4⟩ := ea_loc (loc_fl (n := n) (sec := sec)) (aliveL R l) ⟨_, false, ac3, 0⟩ [] u3 hl2 hnd2
  rw [List.nil_append, dead_alive _ _ _ _ f1] at e2
  rw [List.nil_append] at e1
  rw [List.nil_append, dead_alive _ _ _ _ f2] at e3
  rw [List.nil_append, dead_alive _ _ _ _ f3] at e4
  have hM : toL (fun _ M => flM M) (aliveL R l) (toL (wsG i [h] a) (aliveL R l) (toL (fun _ M => flM M) (aliveL R l) (toL (wsG i b (a + 1)) l R.M))) = toL (putG i a h b) l R.M := funext fun j => by
    by_cases hj : (j : Int) ∈ l ∧ (R.M j).fd = false
    · have hj2 : (j : Int) ∈ aliveL R l := mem_alive.2 ⟨hj.1, by rw [Int.toNat_natCast]; exact hj.2⟩
      have g1 : toL (wsG i b (a + 1)) l R.M j = wsG i b (a + 1) j (R.M j) := if_pos hj
      have g2 : toL (fun _ M => flM M) (aliveL R l) (toL (wsG i b (a + 1)) l R.M) j = flM (wsG i b (a + 1) j (R.M j)) := by
        rw [← g1]; exact if_pos ⟨hj2, (f1 j).trans hj.2⟩
      have g3 : toL (wsG i [h] a) (aliveL R l) (toL (fun _ M => flM M) (aliveL R l) (toL (wsG i b (a + 1)) l R.M)) j = wsG i [h] a j (flM (wsG i b (a + 1) j (R.M j))) := by
        rw [← g2]; exact if_pos ⟨hj2, (f2 j).trans hj.2⟩
      have g5 : toL (putG i a h b) l R.M j = putG i a h b j (R.M j) := if_pos hj
      rw [g5]
      unfold putG
      rw [← g3]
      exact if_pos ⟨hj2, (f3 j).trans hj.2⟩
    · have hj2 : ¬ ((j : Int) ∈ aliveL R l) := fun z => hj ⟨(mem_alive.1 z).1, by have := (mem_alive.1 z).2; rwa [Int.toNat_natCast] at this⟩
      have nn : ∀ (G : Nat → Mst → Mst) (Mm : Nat → Mst), toL G (aliveL R l) Mm j = Mm j := fun G Mm => if_neg fun z => hj2 z.1
      have n1 : ∀ (G : Nat → Mst → Mst), toL G l R.M j = R.M j := fun G => if_neg hj
      rw [nn, nn, nn, n1, n1]
  rw [hM] at e4 u4
  have hph : phs (putS n (i : Int) a h b) R l = (⟨toL (putG i a h b) l R.M, false, ac4, 0⟩, aliveL R l, 0) := by
    show phs [fun R x => wsM n (i : Int) x R (a + 1) b, fl1 n, fun R x => wsM n (i : Int) x R a [h], fl1 n] R l = _
    unfold phs
    rw [e1]
    show (if (0 : Int) = 0 then phs [fl1 n, fun R x => wsM n (i : Int) x R a [h], fl1 n] _ (keepL l (deadL R l)) else _) = _
    rw [if_pos rfl, keep_dead]
    unfold phs
    rw [e2]
    show (if (0 : Int) = 0 then phs [fun R x => wsM n (i : Int) x R a [h], fl1 n] _ (keepL (aliveL R l) []) else _) = _
    rw [if_pos rfl, keep_nilS]
    unfold phs
    rw [e3]
    show (if (0 : Int) = 0 then phs [fl1 n] _ (keepL (aliveL R l) []) else _) = _
    rw [if_pos rfl, keep_nilS]
    unfold phs
    rw [e4]
    show (if (0 : Int) = 0 then phs [] _ (keepL (aliveL R l) []) else _) = _
    rw [if_pos rfl, keep_nilS]
    rfl
  refine ⟨ac4, ?_, u4, fun hal => ?_⟩
  · unfold puX
    rw [hph]
    show (if (0 : Int) = 0 then _ else _) = _
    rw [if_pos rfl]
    show ((_ : Rk), keepL l (aliveL R l), (0 : Int)) = _
    rw [keep_alive]
  · have hla : aliveL R l = l := List.filter_eq_self.2 fun x hx => by rw [hal x hx]; rfl
    have h2 : ∀ x ∈ aliveL R l, (R.M x.toNat).fd = false := fun x hx => (mem_alive.1 hx).2
    have q1 := c1 hal
    have q2 := c2 fun x hx => (f1 _).trans (h2 x hx)
    have q3 := c3 fun x hx => (f2 _).trans (h2 x hx)
    have q4 := c4 fun x hx => (f3 _).trans (h2 x hx)
    rw [hla] at q2 q3 q4
    simp only [List.length_singleton] at q3
    rw [q4]
    show ac3 + _ = _
    rw [q3]
    show ac2 + _ + _ = _
    rw [q2]
    show ac1 + _ + _ + _ = _
    rw [q1, Int.mul_add]
    omega
end
end Go.Proofs.YtfadglcpapiklaaGreatDoor
