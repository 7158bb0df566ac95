/- label: numbers read into fields. -/
import Derived.Test.YtaopknddpagjeaaDoorLabWalk7
import Derived.Test.YtaopknddpagjeaaDoorRq
import Derived.StillTailTactics
namespace Go.Proofs.YtaopknddpagjeaaDoor
open Go.RowKit
set_option linter.unusedVariables false
set_option linter.unusedSimpArgs false
open Lb

/-- One field holds one number, of its width. -/
def Hold1 (w : World) (f : Addr × Int) (t : Int × Nat) : Prop := ∃ b o, f = (⟨b, o, none⟩, (t.2 : Int)) ∧ b < w.heap.size ∧ w.cell? ⟨b, o, none⟩ = some (.int .i64 t.1)
theorem Hold1.below {w w' : World} {f : Addr × Int} {t : Int × Nat} (h : Hold1 w f t) (hb : Below w.heap.size w w') : Hold1 w' f t := by
  obtain ⟨b, o, rfl, h1, h2⟩ := h
  exact ⟨b, o, rfl, Nat.lt_of_lt_of_le h1 hb.size, by rw [hb.cell (p := ⟨b, o, none⟩) h1]; exact h2⟩
def HoldsL (w : World) : List (Addr × Int) → List (Int × Nat) → Prop
  | [], [] => True
  | f :: F, t :: l => Hold1 w f t ∧ HoldsL w F l
  | [], _ :: _ => False
  | _ :: _, [] => False
theorem HoldsL.below {w w' : World} (hb : Below w.heap.size w w') : ∀ {F : List (Addr × Int)} {l : List (Int × Nat)}, HoldsL w F l → HoldsL w' F l
  | [], [], _ => trivial
  | _ :: _, _ :: _, h => ⟨h.1.below hb, HoldsL.below hb h.2⟩
  | [], _ :: _, h => h.elim
  | _ :: _, [], h => h.elim
theorem HoldsL.len {w : World} : ∀ {F : List (Addr × Int)} {l : List (Int × Nat)}, HoldsL w F l → F.length = l.length
  | [], [], _ => rfl
  | _ :: F, _ :: l, h => by rw [List.length_cons, List.length_cons, HoldsL.len h.2]
  | [], _ :: _, h => h.elim
  | _ :: _, [], h => h.elim
theorem HoldsL.append {w : World} : ∀ {F G : List (Addr × Int)} {l m : List (Int × Nat)}, HoldsL w F l → HoldsL w G m → HoldsL w (F ++ G) (l ++ m)
  | [], _, [], _, _, h => h
  | _ :: _, _, _ :: _, _, h, g => ⟨h.1, HoldsL.append h.2 g⟩
  | [], _, _ :: _, _, h, _ => h.elim
  | _ :: _, _, [], _, h, _ => h.elim
theorem HoldsL.at {w : World} : ∀ {F : List (Addr × Int)} {l : List (Int × Nat)}, HoldsL w F l → ∀ k, k < F.length → Hold1 w (F.getD k default) (l.getD k default)
  | [], [], _, k, hk => absurd hk (Nat.not_lt_zero _)
  | _ :: F, _ :: l, h, 0, _ => h.1
  | _ :: F, _ :: l, h, k + 1, hk => HoldsL.at h.2 k (Nat.lt_of_succ_lt_succ hk)
  | [], _ :: _, h, _, _ => h.elim
  | _ :: _, [], h, _, _ => h.elim
theorem tails_snoc : ∀ (a b c : List Int) (x y z : Int), a.length = b.length → a.length = c.length → tails (a ++ [x]) (b ++ [y]) (c ++ [z]) = tails a b c ++ [(x, 1), (y, 6), (z, 1)]
  | [], [], [], x, y, z, _, _ => rfl
  | p :: a, q :: b, r :: c, x, y, z, h1, h2 => by
    simp only [List.length_cons, Nat.add_right_cancel_iff] at h1 h2
    simp only [List.cons_append, tails, tails_snoc a b c x y z h1 h2]
  | [], _ :: _, _, _, _, _, h, _ => by simp at h
  | [], [], _ :: _, _, _, _, _, h => by simp at h
  | _ :: _, [], _, _, _, _, h, _ => by simp at h
  | _ :: _, _ :: _, [], _, _, _, _, h => by simp at h
theorem take_snoc (l : List Int) (k : Nat) (h : k < l.length) : l.take (k + 1) = l.take k ++ [l.getD k 0] := by
  rw [List.take_succ_eq_append_getElem h, getD_get h]
/-- What head lists. -/
theorem headF_holds {w : World} {p : Nat} {x : Lbl} {vs vb vc : Value} (h : LblAt w p x vs vb vc) : HoldsL w (headF p) (heads x) :=
  ⟨⟨_, _, rfl, h.lt, h.c0⟩, ⟨_, _, rfl, h.lt, h.c1⟩, ⟨_, _, rfl, h.lt, h.c3⟩, ⟨_, _, rfl, h.lt, h.c4⟩, ⟨_, _, rfl, h.lt, h.c5⟩, ⟨_, _, rfl, h.lt, h.c2⟩, trivial⟩
/-- What tail lists. -/
theorem tailF_holds {w : World} {sb so bb bo cb co : Nat} {a b c : List Int} (h1 : sb < w.heap.size) (h2 : bb < w.heap.size) (h3 : cb < w.heap.size) (l1 : a.length = b.length) (l2 : a.length = c.length)
    (ha : ∀ i, i < a.length → w.cell? ⟨sb, so + i, none⟩ = some (.int .i64 (a.getD i 0))) (hb : ∀ i, i < a.length → w.cell? ⟨bb, bo + i, none⟩ = some (.int .i64 (b.getD i 0))) (hc : ∀ i, i < a.length → w.cell? ⟨cb, co + i, none⟩ = some (.int .i64 (c.getD i 0))) :
    ∀ k, k ≤ a.length → HoldsL w (tailF sb so bb bo cb co k) (tails (a.take k) (b.take k) (c.take k))
  | 0, _ => trivial
  | k + 1, hk => by
    have ih := tailF_holds h1 h2 h3 l1 l2 ha hb hc k (by omega)
    rw [take_snoc a k (by omega), take_snoc b k (by omega), take_snoc c k (by omega), tails_snoc _ _ _ _ _ _ (by simp; omega) (by simp; omega)]
    exact ih.append ⟨⟨_, _, rfl, h1, ha k (by omega)⟩, ⟨_, _, rfl, h2, hb k (by omega)⟩, ⟨_, _, rfl, h3, hc k (by omega)⟩, trivial⟩
theorem encI_step (l : List (Int × Nat)) (k : Nat) (h : k < l.length) : encI (l.take (k + 1)) = encI (l.take k) ++ numL (l.getD k default).1 ((l.getD k default).2 : Int) := by
  have e : l.take (k + 1) = l.take k ++ [l.getD k default] := by
    rw [List.take_succ_eq_append_getElem h]; congr 2; simp [List.getD_eq_getElem?_getD, h]
  rw [e, encI_append]
  congr 1
  show numL _ _ ++ (⟨#[]⟩ : ByteArray) = _
  exact Rm.app_nil _
theorem mem_getD {l : List (Int × Nat)} {k : Nat} (h : k < l.length) : l.getD k default ∈ l := by
  rw [show l.getD k default = l[k] by simp [List.getD_eq_getElem?_getD, h]]; exact List.getElem_mem h
theorem fits_numE {t : Int × Nat} (h : Fits t) : numE t.1 (t.2 : Int) = 0 := by
  have : numB t.1 (t.2 : Int) = true := by
    obtain ⟨h1, h2, h3, h4⟩ := h
    refine decide_eq_true ⟨by omega, by omega, h3, ?_⟩
    rw [Int.toNat_natCast]
    omega
  rw [numE, if_pos this]
open Go.RowKit
set_option linter.unusedVariables false
set_option linter.unusedSimpArgs false
open Lb

theorem rList_get : ∀ (l : List Nat) (q : RS) (k : Nat), k < l.length → (rList l q).getD k 0 = ((rNum (rListR (l.take k) q) ((l.getD k 0 : Nat) : Int) : Nat) : Int)
  | [], _, k, h => absurd h (Nat.not_lt_zero _)
  | a :: l, q, 0, _ => rfl
  | a :: l, q, k + 1, h => by
    have := rList_get l (rNumR q (a : Int)) k (Nat.lt_of_succ_lt_succ h)
    simpa [rList, rListR] using this
theorem rListR_step (l : List Nat) (q : RS) (k : Nat) (h : k < l.length) : rListR (l.take (k + 1)) q = rNumR (rListR (l.take k) q) ((l.getD k 0 : Nat) : Int) := by
  rw [List.take_succ_eq_append_getElem h, (rList_append _ _ _).2]
  simp [rListR, List.getD_eq_getElem?_getD, h]
/-- Where field i stands. -/
def fA (F : List (Addr × Int)) (i : Nat) : Addr := (F.getD i default).1
/-- k numbers were read into the first k fields; the reader at rb stands at q; nothing else was turned. -/
structure Wr (B rb : Nat) (q : RS) (F : List (Addr × Int)) (vals : List Int) (k : Nat) (w w' : World) : Prop where
  below : Below B w w'
  got : ∀ i, i < k → w'.cell? (fA F i) = some (.int .i64 (vals.getD i 0))
  oth : ∀ b o, b < w.heap.size → b ≠ rb → (∀ i, i < k → fA F i ≠ ⟨b, o, none⟩) → w'.cell? ⟨b, o, none⟩ = w.cell? ⟨b, o, none⟩
  fro : ∀ b o, b < w.heap.size → b ≠ rb → w'.frozen? ⟨b, o, none⟩ = w.frozen? ⟨b, o, none⟩
  rd : RdAt w' rb q.s q.b
/-- What the fields must be. -/
structure Flds (B rb g rp : Nat) (F : List (Addr × Int)) (w : World) : Prop where
  at_ : ∀ i, i < F.length → ∃ b o, fA F i = ⟨b, o, none⟩ ∧ B ≤ b ∧ b < w.heap.size ∧ b ≠ rb ∧ b ≠ g ∧ b ≠ rp ∧ (∃ u, w.cell? ⟨b, o, none⟩ = some (.int .i64 u)) ∧ w.frozen? ⟨b, o, none⟩ = false
  ne : ∀ i j, i < F.length → j < F.length → i ≠ j → fA F i ≠ fA F j
theorem Wr.step {B rb g rp : Nat} {q q' : RS} {F : List (Addr × Int)} {vals : List Int} {k : Nat} {w wr wx w3 : World} (hF : Flds B rb g rp F w) (hk : k < F.length) (hrb : rb < w.heap.size) (hB : B ≤ w.heap.size) (hBr : B ≤ rb)
    (h : Wr B rb q F vals k w wr) (hx : Below wr.heap.size wr wx) (hr : RdTo wx rb q'.s q'.b w3) :
    Wr B rb q' F vals (k + 1) w (w3.setCell (fA F k) (.int .i64 (vals.getD k 0))) ∧ (∃ u, w3.cell? (fA F k) = some (.int .i64 u)) ∧ w3.frozen? (fA F k) = false := by
  obtain ⟨b, o, hf, hBb, hbw, hbr, hbg, hbp, ⟨u, hu⟩, hfr⟩ := hF.at_ k hk
  have hsz := h.below.size
  have hxs := hx.size
  have hold : ∀ b o, b < w.heap.size → b ≠ rb → w3.cell? ⟨b, o, none⟩ = wr.cell? ⟨b, o, none⟩ := fun b o h1 h2 => by
    rw [cell_of_heap (hr.oth b (by omega) h2), cell_of_heap (hx.block b (by omega))]
  have holdF : ∀ b o, b < w.heap.size → b ≠ rb → w3.frozen? ⟨b, o, none⟩ = wr.frozen? ⟨b, o, none⟩ := fun b o h1 h2 => by
    rw [frozen_of_heap (hr.oth b (by omega) h2), frozen_of_heap (hx.block b (by omega))]
  have hcell : w3.cell? (fA F k) = some (.int .i64 u) := by
    rw [hf, hold b o hbw hbr, h.oth b o hbw hbr (fun i hi e => hF.ne i k (by omega) hk (by omega) (by rw [e, hf]))]; exact hu
  have hfroz : w3.frozen? (fA F k) = false := by
    rw [hf, holdF b o hbw hbr, h.fro b o hbw hbr]; exact hfr
  refine ⟨⟨?_, fun i hi => ?_, fun c p hc hne hi => ?_, fun c p hc hne => ?_, ?_⟩, ⟨u, hcell⟩, hfroz⟩
  · exact ((h.below.trans (hx.mono (by omega))).trans (hr.keep B hBr (by omega))).setCell (by rw [hf]; exact hBb) _
  · by_cases e : i = k
    · subst e
      exact World.cell?_setCell_same' _ _ _ (by rw [hcell]; rfl)
    · obtain ⟨b', o', hf', _, hbw', hbr', _⟩ := hF.at_ i (by omega)
      rw [World.cell?_setCell_other _ _ _ _ (fun h' => hF.ne i k (by omega) hk e h'.symm), hf', hold b' o' hbw' hbr', ← hf']
      exact h.got i (by omega)
  · rw [World.cell?_setCell_other _ _ _ _ (fun h' => hi k (by omega) h'), hold c p hc hne]
    exact h.oth c p hc hne fun i hi' => hi i (by omega)
  · rw [World.frozen?_setCell, holdF c p hc hne]; exact h.fro c p hc hne
  · have e : (w3.setCell (fA F k) (.int .i64 (vals.getD k 0))).heap[rb]? = w3.heap[rb]? := Below.heap_setCell _ _ _ _ (by rw [hf]; exact Ne.symm hbr)
    exact ⟨by rw [cell_of_heap e]; exact hr.r.c0, by rw [cell_of_heap e]; exact hr.r.c1, by rw [frozen_of_heap e]; exact hr.r.f0, by rw [frozen_of_heap e]; exact hr.r.f1, by simpa using hr.r.lt⟩
set_option maxRecDepth 100000 in
set_option maxHeartbeats 8000000 in
theorem read_any (B g cap rp rb : Nat) (F : List (Addr × Int)) (ws : List Nat) (q : RS) (w : World) (hF : ReadsE fieldE w (.slice (some ⟨g, 0, none⟩) F.length cap) F) (hg : g < w.heap.size) (hgr : g ≠ rb)
    (hp : w.cell? ⟨rp, 0, none⟩ = some (.pointer (some ⟨rb, 0, none⟩))) (hpl : rp < w.heap.size) (hpr : rp ≠ rb) (hR : RdAt w rb q.s q.b) (hs : q.s.size ≤ 140737488355328) (hFl : Flds B rb g rp F w)
    (hw : F.map (·.2) = ws.map fun n : Nat => (n : Int)) (hl : F.length ≤ 100) (hB : B ≤ w.heap.size) (hBr : B ≤ rb) :
    Calls Tryd.prog 34 #[.slice (some ⟨g, 0, none⟩) F.length cap, .pointer (some ⟨rp, 0, none⟩)] w fun e w' => e = .returned (.tuple #[]) ∧ Wr B rb (rListR ws q) F (rList ws q) F.length w w' := by
  have hwl : F.length = ws.length := by have := congrArg List.length hw; simpa using this
  have hcell : ∀ k, k < F.length → w.cell? ⟨g, k * 2, none⟩ = some (.pointer (some (fA F k))) ∧ w.cell? ⟨g, k * 2 + 1, none⟩ = some (.int .i64 ((ws.getD k 0 : Nat) : Int)) := fun k hk => by
    obtain ⟨a, c, e, hc⟩ := hF.items
    obtain ⟨cb, co, ea, h1, h2⟩ := hc k hk
    simp at e
    obtain ⟨e1, _⟩ := e
    rw [ea] at e1
    simp at e1
    obtain ⟨rfl, rfl⟩ := e1
    have w2 : (F[k]).2 = ((ws.getD k 0 : Nat) : Int) := by
      have := congrArg (fun l => l[k]?) hw
      simp [hk, show k < ws.length by omega] at this
      rw [this]; simp [List.getD_eq_getElem?_getD, show k < ws.length by omega]
    have w1 : fA F k = (F[k]).1 := by simp [fA, List.getD_eq_getElem?_getD, hk]
    have c0 := h2 0 (by decide)
    have c1 := h2 1 (by decide)
    rw [Nat.zero_add] at c0 c1
    refine ⟨by rw [w1]; exact c0, ?_⟩
    rw [← w2]; exact c1
  have hgt := fun k (hk : k < F.length) => rList_get ws q k (by omega)
  have hst := fun k (hk : k < F.length) => rListR_step ws q k (by omega)
  have hsz : ∀ k, (rListR (ws.take k) q).s.size ≤ 140737488355328 := fun k => Nat.le_trans (rListR_size _ _) hs
  have hfin : Hid (rListR (ws.take F.length) q = rListR ws q) := Lib.hid (by rw [List.take_of_length_le (by omega)])
  have h0 : Hid (Wr B rb (rListR (ws.take 0) q) F (rList ws q) 0 w w) := Lib.hid ⟨Below.refl _ _, fun i hi => absurd hi (Nat.not_lt_zero _), fun _ _ _ _ _ => rfl, fun _ _ _ _ => rfl, hR⟩
  have hrbl := hR.lt
  clear hF hw hR hs hwl
  obtain ⟨n, hn⟩ : ∃ n, F.length = n := ⟨_, rfl⟩
  rw [hn] at hcell hgt hst hfin hl ⊢
  go_enter Tryd.func34, Tryd.ntmps34
  go_wp2_with (fail)
  go_loopw [7] (fun t wr => ∃ k : Nat, k ≤ n ∧ t = .int .i64 (k : Int) ∧ Wr B rb (rListR (ws.take k) q) F (rList ws q) k w wr) (fun t _ => n - (intOf t).toNat)
  case atStart => exact ⟨0, by omega, rfl, h0.out⟩
  case round =>
    obtain ⟨k, hk, rfl, hW⟩ := hrel
    rename World => wr
    have hBs := hW.below.size
    by_cases hlt : k < n
    · have y1 : (k : Int) < (n : Int) := by omega
      obtain ⟨c0, c1⟩ := hcell k hlt
      have hone : ∀ o, wr.cell? ⟨g, o, none⟩ = w.cell? ⟨g, o, none⟩ := fun o => hW.oth g o hg hgr fun i hi e => by
        obtain ⟨b, o', hf, _, _, _, hne, _⟩ := hFl.at_ i (by omega)
        rw [hf] at e; exact hne (congrArg Addr.block e)
      have d0 : wr.cell? ⟨g, k * 2, none⟩ = some (.pointer (some (fA F k))) := (hone _).trans c0
      have d1 : wr.cell? ⟨g, k * 2 + 1, none⟩ = some (.int .i64 ((ws.getD k 0 : Nat) : Int)) := (hone _).trans c1
      have d2 : wr.cell? ⟨rp, 0, none⟩ = some (.pointer (some ⟨rb, 0, none⟩)) := (hW.oth rp 0 hpl hpr fun i hi e => by
        obtain ⟨b, o', hf, _, _, _, _, hne, _⟩ := hFl.at_ i (by omega)
        rw [hf] at e; exact hne (congrArg Addr.block e)).trans hp
      have hbx : Below wr.heap.size wr (wr.alloc (.cells #[.pointer (some (fA F k)), .int .i64 ((ws.getD k 0 : Nat) : Int)] 61)) := (Below.refl _ _).alloc (Nat.le_refl _) _
      have f0 : (wr.alloc (.cells #[.pointer (some (fA F k)), .int .i64 ((ws.getD k 0 : Nat) : Int)] 61)).cell? ⟨wr.heap.size, 0, none⟩ = some (.pointer (some (fA F k))) := by rw [World.cell?_alloc_mark]; rfl
      have f1 : (wr.alloc (.cells #[.pointer (some (fA F k)), .int .i64 ((ws.getD k 0 : Nat) : Int)] 61)).cell? ⟨wr.heap.size, 1, none⟩ = some (.int .i64 ((ws.getD k 0 : Nat) : Int)) := by rw [World.cell?_alloc_mark]; rfl
      have f2 : (wr.alloc (.cells #[.pointer (some (fA F k)), .int .i64 ((ws.getD k 0 : Nat) : Int)] 61)).cell? ⟨rp, 0, none⟩ = some (.pointer (some ⟨rb, 0, none⟩)) := (hbx.cell (p := ⟨rp, 0, none⟩) (by show rp < _; omega)).trans d2
      have hgk := hgt k hlt
      have hsk := hst k hlt
      obtain ⟨wd, hwd⟩ : ∃ wd, ws.getD k 0 = wd := ⟨_, rfl⟩
      rw [hwd] at hgk hsk d1 hbx f0 f1 f2
      have hrd := hW.rd
      have hszk := hsz k
      obtain ⟨qk, hqk⟩ : ∃ qk, rListR (ws.take k) q = qk := ⟨_, rfl⟩
      rw [hqk] at hgk hsk hrd hszk hW
      obtain ⟨b, o, hfk, _, hbw, _, _, hbp, _⟩ := hFl.at_ k (by omega)
      have hstep := fun (wx w3 : World) (hx : Below wr.heap.size wr wx) (hr : RdTo wx rb (rNumR qk (wd : Int)).s (rNumR qk (wd : Int)).b w3) => Wr.step hFl (by omega) hrbl hB hBr hW hx hr
      rw [hgk, hfk] at hstep
      rw [hfk] at d0 hbx f0 f1 f2
      clear hcell hgt hst hsz hone c0 c1 hwd hFl hqk
      go_wp2_with (fail)
      generalize hwx : wr.alloc (.cells #[.pointer (some ⟨b, o, none⟩), .int .i64 (wd : Int)] 61) = wx at *
      have hrdx : RdAt wx.drew rb qk.s qk.b := hrd.below hbx.drew hrd.lt
      have hst1 := hstep wx.drew
      have hbd := hbx.drew
      have hwl : wr.heap.size < wx.heap.size := by rw [← hwx]; simp
      clear hstep hwx d0 d1 d2 hrd
      have hkeep : ∀ W, RdTo wx.drew rb (rNumR qk (wd : Int)).s (rNumR qk (wd : Int)).b W → W.cell? ⟨wr.heap.size, 0, none⟩ = some (.pointer (some ⟨b, o, none⟩)) ∧ W.cell? ⟨wr.heap.size, 1, none⟩ = some (.int .i64 (wd : Int)) ∧ W.cell? ⟨rp, 0, none⟩ = some (.pointer (some ⟨rb, 0, none⟩)) := fun W r => by
        have hh := r.oth wr.heap.size hwl (by omega)
        have hh2 := r.oth rp (by show rp < wx.heap.size; omega) hpr
        exact ⟨by rw [cell_of_heap hh]; exact f0, by rw [cell_of_heap hh]; exact f1, by rw [cell_of_heap hh2]; exact f2⟩
      have hk0 : wx.drew.cell? ⟨wr.heap.size, 0, none⟩ = some (.pointer (some ⟨b, o, none⟩)) ∧ wx.drew.cell? ⟨wr.heap.size, 1, none⟩ = some (.int .i64 (wd : Int)) ∧ wx.drew.cell? ⟨rp, 0, none⟩ = some (.pointer (some ⟨rb, 0, none⟩)) := ⟨f0, f1, f2⟩
      have hbw2 : b < wr.heap.size := by omega
      go_region_held3 (fun W => W.cell? ⟨wr.heap.size, 0, none⟩ = some (.pointer (some ⟨b, o, none⟩)) ∧ W.cell? ⟨wr.heap.size, 1, none⟩ = some (.int .i64 (wd : Int)) ∧ W.cell? ⟨rp, 0, none⟩ = some (.pointer (some ⟨rb, 0, none⟩))) (first | exact ⟨f0, f1, f2⟩ | exact hk0 | exact hkeep _ (by assumption) | exact ⟨(World.cell?_setCell_far _ _ _ _ (by show b ≠ wr.heap.size; omega)).trans (hkeep _ (by assumption)).1, (World.cell?_setCell_far _ _ _ _ (by show b ≠ wr.heap.size; omega)).trans (hkeep _ (by assumption)).2.1, (World.cell?_setCell_far _ _ _ _ hbp).trans (hkeep _ (by assumption)).2.2⟩ | go_keep) (first
        | (go_at_call 35; refine (rdnum_q rb qk (wd : Int) wx.drew hrdx hszk).mono ?_; rintro e w3 ⟨rfl, r3⟩; obtain ⟨hW3, ⟨u, hc3⟩, hf3⟩ := hst1 w3 hbd r3; have hk3 := hkeep w3 r3))
      go_wp2_with (fail)
      go_roundw
      case rel => exact ⟨k + 1, by omega, by go_num, by rw [hsk]; exact hW3⟩
      case measure => simp [intOf]; omega
    · obtain rfl : k = n := by omega
      have y1 : ¬ ((k : Int) < (k : Int)) := by omega
      rw [hfin.out] at hW
      go_wp2_with (fail)
      go_end0
      exact ⟨rfl, hW⟩
end Go.Proofs.YtaopknddpagjeaaDoor
