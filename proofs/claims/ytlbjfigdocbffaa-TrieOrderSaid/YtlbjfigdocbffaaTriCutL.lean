/- trie: cut, level by level. -/
import Derived.Test.YtlbjfigdocbffaaTriCut
namespace Go.Proofs.Ytlbjfigdocbffaa
open Go.RowKit
set_option linter.unusedVariables false
set_option linter.unusedSimpArgs false

/-- How many nodes on the way to a key have one reference each, from the first one on. -/
def pdn (c : Nat → Nat) (e : Nat → Nat → Nat) : Nat → Nat → Nat → Nat
  | 0, _, _ => 0
  | l + 1, b, k => if b = 0 then 0 else if c b = 1 then 1 + pdn c e l (e b (k / 16 ^ l % 16)) k else 0
/-- How many nodes there are on the way to a key. -/
def exn (e : Nat → Nat → Nat) : Nat → Nat → Nat → Nat
  | 0, _, _ => 0
  | l + 1, b, k => if b = 0 then 0 else 1 + exn e l (e b (k / 16 ^ l % 16)) k
theorem pdn_zero (c : Nat → Nat) (e : Nat → Nat → Nat) (l k : Nat) : pdn c e l 0 k = 0 := by cases l <;> rfl
theorem exn_zero (e : Nat → Nat → Nat) (l k : Nat) : exn e l 0 k = 0 := by cases l <;> rfl
theorem pdn_succ {c : Nat → Nat} {e : Nat → Nat → Nat} {l b : Nat} (k : Nat) (h : b ≠ 0) (hc : c b = 1) : pdn c e (l + 1) b k = 1 + pdn c e l (e b (k / 16 ^ l % 16)) k := by
  show (if b = 0 then 0 else if c b = 1 then _ else _) = _
  rw [if_neg h, if_pos hc]
theorem pdn_many {c : Nat → Nat} {e : Nat → Nat → Nat} {l b : Nat} (k : Nat) (hc : c b ≠ 1) : pdn c e (l + 1) b k = 0 := by
  show (if b = 0 then 0 else if c b = 1 then _ else _) = _
  rw [if_neg hc]
  split <;> rfl
theorem exn_succ {e : Nat → Nat → Nat} {l b : Nat} (k : Nat) (h : b ≠ 0) : exn e (l + 1) b k = 1 + exn e l (e b (k / 16 ^ l % 16)) k := if_neg h
theorem exn_le (e : Nat → Nat → Nat) : ∀ l b k, exn e l b k ≤ l
  | 0, _, _ => Nat.le_refl _
  | l + 1, b, k => by
    unfold exn
    split
    · omega
    · have := exn_le e l (e b (k / 16 ^ l % 16)) k; omega
theorem pdn_le (c : Nat → Nat) (e : Nat → Nat → Nat) : ∀ l b k, pdn c e l b k ≤ exn e l b k
  | 0, _, _ => Nat.le_refl _
  | l + 1, b, k => by
    unfold pdn exn
    split
    · omega
    · split
      · have := pdn_le c e l (e b (k / 16 ^ l % 16)) k; omega
      · omega
section
variable {σ : Tri.St} {ext : Nat → Nat} {G H : Nat → Prop} {lv pos : Nat → Nat}
theorem way_same (hi : Tri.Inv σ ext G H lv pos) {e' : Nat → Nat → Nat} (he : ∀ b, G b → e' b = σ.e b) : ∀ l b k, (b ≠ 0 → G b ∧ lv b = l) → pdn σ.c e' l b k = pdn σ.c σ.e l b k ∧ exn e' l b k = exn σ.e l b k
  | 0, _, _, _ => ⟨rfl, rfl⟩
  | l + 1, b, k, hb => by
    by_cases h0 : b = 0
    · subst h0
      rw [pdn_zero, pdn_zero, exn_zero, exn_zero]; exact ⟨rfl, rfl⟩
    · obtain ⟨hG, hl⟩ := hb h0
      have ih := way_same hi he l (σ.e b (k / 16 ^ l % 16)) k fun hne => by
        obtain ⟨q1, q2, _⟩ := hi.int b _ hG (by omega) (Nat.mod_lt _ (by omega)) hne
        exact ⟨q1, by omega⟩
      refine ⟨?_, by rw [exn_succ k h0, exn_succ k h0, he b hG, ih.2]⟩
      by_cases hc : σ.c b = 1
      · rw [pdn_succ k h0 hc, pdn_succ k h0 hc, he b hG, ih.1]
      · rw [pdn_many k hc, pdn_many k hc]
end
theorem usedTo_dec {C : Nat → Nat} {t : Nat} (h0 : 0 < C t) : ∀ n, t < n → usedTo (upd C t 0) n + 1 = usedTo C n
  | 0, h => absurd h (Nat.not_lt_zero _)
  | n + 1, h => by
    rw [used_succ, used_succ]
    by_cases e : t = n
    · subst e
      have h1 : usedTo (upd C t 0) t = usedTo C t := usedTo_congr t fun x hx => by unfold upd; rw [if_neg (by omega)]
      rw [h1, if_pos h0]
      have : ¬ 0 < upd C t 0 t := by unfold upd; rw [if_pos rfl]; omega
      rw [if_neg this]
    · have := usedTo_dec h0 n (by omega)
      have h1 : upd C t 0 n = C n := by unfold upd; rw [if_neg (by omega)]
      rw [h1]; omega
section
variable {h g m n : Nat} {u : Value} {lv pos : Nat → Nat} {key : Nat}
theorem cut_lv (h g m : Nat) (u : Value) (hn : n ≤ 200) : ∀ (l : Nat) {Y : Tri.TW ByteArray} {ext0 : Nat → Nat} {G H : Nat → Prop} {b P B : Nat} (Z : Int → Bool),
    Tri.Ok ntext Y (Tri.plus ext0 (Tri.oneZ b)) G H lv pos → (b ≠ 0 → lv b = l ∧ pos b = P) → (∀ x, 0 < Y.σ.c x → x < n) → (∀ x, ext0 x ≤ B) → B + l ≤ 20 → usedTo (cOf Y.σ.c) n + l ≤ n → Tri.get Y.σ.e l b key ≠ 0 →
    ∃ t Y' Z' G' lv' pos', Tri.Chg ntext Y Y' ext0 G H lv pos G' lv' pos' l P t (Tri.setF (Tri.get Y.σ.e l b) l key 0) ∧ (∀ x, 0 < Y'.σ.c x → x < n) ∧
      (usedTo (cOf Y'.σ.c) n + pdn Y.σ.c Y.σ.e l b key ≤ usedTo (cOf Y.σ.c) n + pdn Y'.σ.c Y'.σ.e l t key ∧ pdn Y'.σ.c Y'.σ.e l t key = exn Y'.σ.e l t key) ∧
      ∀ w p o, Hp w h g m n u (cOf Y.σ.c) Z Y.T → PathAt w g m p o l key → Calls Try.prog 45 #[.pointer (some ⟨h, 0, none⟩), .int .i64 (b : Int), restV p o l] w (HpG w h g m n u (cOf Y'.σ.c) Z' Y'.T (.tuple #[.int .i64 (t : Int), .int .i64 0]))
  | 0, Y, ext0, G, H, b, P, B, Z, ok, hlp, hlt, hB, hBl, hroom, hget => by
    have ok' : Tri.Ok ntext Y (Tri.plus (Tri.plus ext0 (Tri.oneZ 0)) (Tri.oneZ b)) G H lv pos := ok.congrE fun x => by unfold Tri.plus; rw [Tri.oneZ_zero]; rfl
    obtain ⟨Y', G', c1, c2, c3, c4, c5, c6⟩ := leaf_spec (n := n) (P := P) h g m u Z 0 ok' (fun z => absurd rfl z) hlp hlt
    refine ⟨0, Y', Z, G', lv, pos, ?_, fun x hx => hlt x (c4 x hx), ⟨?_, rfl⟩, fun w p o hw hp => cut_leaf b p o (c6 w hw)⟩
    case refine_2 =>
      refine Nat.add_le_add (usedTo_mono n fun x _ hx => ?_) (Nat.le_refl _)
      by_cases x3 : x < 3
      · rw [cOf_lo x3]; omega
      · rw [cOf_hi (by omega)] at hx ⊢; exact c4 x hx
    have e : (fun _ => 0) = Tri.setF (Tri.get Y.σ.e 0 b) 0 key 0 := by
      funext k
      unfold Tri.setF
      rw [Nat.pow_zero, Nat.mod_one, Nat.mod_one, if_pos rfl]
    rw [← e]; exact c1
  | l + 1, Y, ext0, G, H, b, P, B, Z, ok, hlp, hlt, hB, hBl, hroom, hget => by
    have hi : key / 16 ^ l % 16 < 16 := Nat.mod_lt _ (by omega)
    have hb : b ≠ 0 := fun e => by rw [e, Tri.get_zero] at hget; exact hget rfl
    obtain ⟨hlb, hpb⟩ := hlp hb
    rw [Tri.oneZ_pos hb] at ok
    obtain ⟨t, Y1, Z1, G1, H1, hh, hlt1, hcase, hG1, hown⟩ := own_spec (n := n) (l := l) (P := P) h g m u Z ok hlb hpb hn hlt hB (by omega) (by omega)
    have ht := hh.ok.i.rng t (.inr hh.hd)
    have htc := hh.ok.i.held t hh.hd
    have htn := hlt1 t (by omega)
    have ok1 : Tri.Ok ntext Y1 (Tri.plus (Tri.rest ext0 (Y1.σ.e t) (key / 16 ^ l % 16)) (Tri.oneZ (Y1.σ.e t (key / 16 ^ l % 16)))) G1 H1 lv pos := hh.ok.congrE fun x => (Tri.rest_plus ext0 (n := Y1.σ.e t) hi x).symm
    have hu1 : usedTo (cOf Y1.σ.c) n ≤ usedTo (cOf Y.σ.c) n + 1 := by
      rcases hcase with ⟨_, e1, _⟩ | ⟨d1, d2, d3, d5, _⟩
      · rw [e1]; omega
      · refine usedTo_le_one n (t := t) fun x hx hp => ?_
        by_cases x3 : x < 3
        · rw [cOf_lo x3]; omega
        · rw [cOf_hi (by omega)] at hp ⊢
          have e5 := d5 x
          rw [Tri.one_other hx] at e5
          by_cases kz : 0 < Tri.kids (Y.σ.e b) x
          · have hGb : G b := ok.i.ex b (by
              show 0 < _ + Tri.one b b
              rw [Tri.one_same]; omega)
            exact (ok.i.all x).2 (.inl (kids_ge3 ok (ok.i.kids hGb hlb) kz).2)
          · omega
    have hget1 : Tri.get Y1.σ.e l (Y1.σ.e t (key / 16 ^ l % 16)) key ≠ 0 := by rw [hh.get key]; exact hget
    obtain ⟨kid, Y2, Z2, G2, lv2, pos2, hch, hlt2, ⟨hus, hpx⟩, hcut⟩ := cut_lv h g m u hn l (P := P * 16 + key / 16 ^ l % 16) (B := B + 1) Z1 ok1 (fun hne => (hh.kid _ hi hne).2) hlt1 (rest_le hB (kids_one hh.kid)) (by omega) (by omega) hget1
    obtain ⟨het, hTt⟩ := hch.keep.h t hh.hd
    have hkid : kid ≤ 255 := by
      by_cases hk0 : kid = 0
      · omega
      · have := (hch.ok.i.rng kid (.inl (hch.ok.i.ex kid (by
          unfold Tri.plus
          rw [Tri.oneZ_pos hk0, Tri.one_same]; omega))))
        omega
    have htc2 := hch.ok.i.held t hh.hd
    have hE := kids_ents hh.ok hh.kid hlt1
    have hf : (fun k => if k / 16 ^ l % 16 = key / 16 ^ l % 16 then Tri.setF (Tri.get Y1.σ.e l (Y1.σ.e t (key / 16 ^ l % 16))) l key 0 k else Tri.get Y.σ.e (l + 1) b k) = Tri.setF (Tri.get Y.σ.e (l + 1) b) (l + 1) key 0 := by
      have e1 : Tri.get Y.σ.e (l + 1) b = fun k => Tri.get Y1.σ.e l (Y1.σ.e t (k / 16 ^ l % 16)) k := funext fun k => (hh.get k).symm
      rw [e1]
      funext k
      exact Tri.setF_step Y1.σ.e (Y1.σ.e t) l key 0 k
    by_cases hz : ∀ j, j < 16 → Tri.updE (Y1.σ.e t) (key / 16 ^ l % 16) kid j = 0
    · have hk0 : kid = 0 := by have := hz _ hi; rw [Tri.updE_same] at this; exact this
      subst hk0
      have hgone := hh.gone (X3 := ⟨⟨upd Y2.σ.c t 0, Y2.σ.e⟩, Y2.T⟩) hi hch rfl rfl (by show upd _ _ _ _ = 0; unfold upd; rw [if_pos rfl]) (fun x hx => by show upd _ _ _ _ = _; unfold upd; rw [if_neg hx]) hz (fun k => by rw [← hch.get k, Tri.get_zero])
      rw [hf] at hgone
      refine ⟨0, _, Z2, G2, lv2, pos2, hgone, fun x hx => ?_, ⟨?_, by rw [pdn_zero, exn_zero]⟩, fun w p o hw hp => ?_⟩
      · have hx : 0 < upd Y2.σ.c t 0 x := hx
        unfold upd at hx
        split at hx
        · omega
        · exact hlt2 x hx
      · rw [pdn_zero]
        rw [pdn_zero] at hus
        have hd := usedTo_dec (C := cOf Y2.σ.c) (t := t) (by rw [cOf_hi ht.1]; omega) n htn
        rw [cOf_upd _ ht.1] at hd
        show usedTo (cOf (upd Y2.σ.c t 0)) n + _ ≤ _
        rcases hcase with ⟨e0, e1, e2⟩ | ⟨_, _, d3, _⟩
        · rw [pdn_succ key hb e2, ← e0]
          rw [e1] at hus
          omega
        · rw [pdn_many key (by omega)]
          omega
      · refine cut_gone hw b p o _ l _ t 0 (Y1.σ.e t) hi (hE.le hn) (by omega) hp.1 hp.2.1 hp.2.2.1 hp.head rfl hown (fun W hW hT => hcut W p _ hW (hp.next.to hT)) hz (fun W hW => ?_)
        have := release_one hW t ht.1 htn (by rw [cOf_hi ht.1]; omega)
        rw [cOf_hi ht.1, htc2, cOf_upd _ ht.1] at this
        exact this
    · have hs : ∃ j, j < 16 ∧ Tri.updE (Y1.σ.e t) (key / 16 ^ l % 16) kid j ≠ 0 := by
        apply Classical.byContradiction
        intro hno
        exact hz fun j hj => Classical.byContradiction fun hne => hno ⟨j, hj, hne⟩
      obtain ⟨Z3, hent⟩ := enter_spec h g m n u (cOf Y2.σ.c) Z2 Y2.T t ht.1 htn (by rw [cOf_hi ht.1]; omega) (Y1.σ.e t) (hE.le hn) (by rw [hTt, hh.text]) (key / 16 ^ l % 16) kid hi hkid
      have hdone := hh.done (X3 := ⟨⟨Y2.σ.c, fun x => if x = t then Tri.updE (Y1.σ.e t) (key / 16 ^ l % 16) kid else Y2.σ.e x⟩, updX Y2.T t (ntext (Tri.updE (Y1.σ.e t) (key / 16 ^ l % 16) kid))⟩) hi hch rfl (fun x hx => if_neg hx) (fun x hx => if_neg hx) (if_pos rfl) (if_pos rfl) hs
      rw [hf] at hdone
      have ht0 : t ≠ 0 := by omega
      have hkd : kid ≠ 0 → G2 kid ∧ lv2 kid = l := fun hk0 => ⟨hch.ok.i.ex kid (by
        unfold Tri.plus
        rw [Tri.oneZ_pos hk0, Tri.one_same]; omega), (hch.at_ hk0).1⟩
      obtain ⟨s1, s2⟩ := way_same hch.ok.i (e' := fun x => if x = t then Tri.updE (Y1.σ.e t) (key / 16 ^ l % 16) kid else Y2.σ.e x) (fun x hx => if_neg (fun ee => by subst ee; exact hch.ok.i.dj x hx hh.hd)) l kid key hkd
      have hp3 : pdn Y2.σ.c (fun x => if x = t then Tri.updE (Y1.σ.e t) (key / 16 ^ l % 16) kid else Y2.σ.e x) (l + 1) t key = 1 + pdn Y2.σ.c Y2.σ.e l kid key := by
        rw [pdn_succ key ht0 htc2]
        show 1 + pdn _ _ l ((if t = t then Tri.updE (Y1.σ.e t) (key / 16 ^ l % 16) kid else Y2.σ.e t) (key / 16 ^ l % 16)) key = _
        rw [if_pos rfl, Tri.updE_same, s1]
      have he3 : exn (fun x => if x = t then Tri.updE (Y1.σ.e t) (key / 16 ^ l % 16) kid else Y2.σ.e x) (l + 1) t key = 1 + exn Y2.σ.e l kid key := by
        rw [exn_succ key ht0]
        show 1 + exn _ l ((if t = t then Tri.updE (Y1.σ.e t) (key / 16 ^ l % 16) kid else Y2.σ.e t) (key / 16 ^ l % 16)) key = _
        rw [if_pos rfl, Tri.updE_same, s2]
      refine ⟨t, _, Z3, _, _, _, hdone, fun x hx => hlt2 x hx, ⟨?_, ?_⟩, fun w p o hw hp => ?_⟩
      · show usedTo (cOf Y2.σ.c) n + _ ≤ _ + pdn Y2.σ.c (fun x => if x = t then Tri.updE (Y1.σ.e t) (key / 16 ^ l % 16) kid else Y2.σ.e x) (l + 1) t key
        rw [hp3]
        rcases hcase with ⟨e0, e1, e2⟩ | ⟨_, _, d3, _⟩
        · rw [pdn_succ key hb e2, ← e0]
          rw [e1] at hus
          omega
        · rw [pdn_many key (by omega)]
          omega
      · show pdn Y2.σ.c (fun x => if x = t then Tri.updE (Y1.σ.e t) (key / 16 ^ l % 16) kid else Y2.σ.e x) (l + 1) t key = exn (fun x => if x = t then Tri.updE (Y1.σ.e t) (key / 16 ^ l % 16) kid else Y2.σ.e x) (l + 1) t key
        rw [hp3, he3, hpx]
      exact cut_enter hw b p o _ l _ t kid (Y1.σ.e t) hi (hE.le hn) hkid hp.1 hp.2.1 hp.2.2.1 hp.head rfl hown (fun W hW hT => hcut W p _ hW (hp.next.to hT)) hs (fun W hW => hent W hW)
end
end Go.Proofs.Ytlbjfigdocbffaa
