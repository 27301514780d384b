/-
  A condition as it is written: the plain reader reads of its words the tree that was meant. The words of a text that is put together out of pieces. What is printed of a condition: its words, and that it is read back. A policy as it is written: the plain reader reads the items that were meant.
-/
import Derived.Test.YtfkdailfcmnjlaaGreatDoorPlain01
import Derived.Test.YtfkdailfcmnjlaaGreatDoorPlain02
import Derived.Test.YtfkdailfcmnjlaaGreatDoorPlain04
import Derived.Test.YtfkdailfcmnjlaaGreatDoorPlain07
import Derived.Test.YtfkdailfcmnjlaaGreatDoorPlain09
set_option linter.unusedVariables false
set_option linter.unusedSimpArgs false
namespace Go.Proofs.YtfkdailfcmnjlaaGreatDoor
set_option maxRecDepth 100000

/-- A condition as it is meant: a word's kind and text, what stands under it. -/
structure Sy where
  k : Nat
  text : List UInt8
  kids : List Sy
def noSy : Sy := ⟨0, [], []⟩
/-- A word's kind and text. -/
def wd (t : Tok) : Nat × List UInt8 := (t.k, t.text)
/-- The words from a place on are these. -/
def Mt (ts : List Tok) : Nat → List (Nat × List UInt8) → Prop
  | _, [] => True
  | i, w :: r => wd (tokAt ts i) = w ∧ Mt ts (i + 1) r
theorem Mt.left {ts : List Tok} {a : List (Nat × List UInt8)} : ∀ {i : Nat} {b : List (Nat × List UInt8)}, Mt ts i (a ++ b) → Mt ts i a := by
  induction a with
  | nil => intro i b _; trivial
  | cons w a ih => intro i b h; exact ⟨h.1, ih h.2⟩
theorem Mt.right {ts : List Tok} {a : List (Nat × List UInt8)} : ∀ {i : Nat} {b : List (Nat × List UInt8)}, Mt ts i (a ++ b) → Mt ts (i + a.length) b := by
  induction a with
  | nil => intro i b h; exact h
  | cons w a ih =>
    intro i b h
    have := ih h.2
    rw [show i + (w :: a).length = i + 1 + a.length from by simp; omega]
    exact this
/-- The same word: of numbers, the same number. -/
def SameW (t : Tok) (s : Sy) : Prop := t.k = s.k ∧ (if s.k = 110 then decVal t.text = decVal s.text else t.text = s.text)
/-- The part at a place is this tree. -/
def IsSy : Nat → List Pt → Nat → Sy → Prop
  | 0, _, _, _ => False
  | d + 1, L, i, s => i < L.length ∧ SameW (L.getD i noPt).tok s ∧ (L.getD i noPt).subs.length = s.kids.length ∧ ∀ j, j < s.kids.length → IsSy d L ((L.getD i noPt).subs.getD j 0) (s.kids.getD j noSy)
theorem IsSy.more {d : Nat} : ∀ {L : List Pt} {i : Nat} {s : Sy}, IsSy d L i s → ∀ new, IsSy d (L ++ new) i s := by
  induction d with
  | zero => intro L i s h; exact h.elim
  | succ d ih =>
    intro L i s h new
    obtain ⟨h1, h2, h3, h4⟩ := h
    rw [← getD_left (M := new) h1] at h2 h3 h4
    exact ⟨by simp; omega, h2, h3, fun j hj => ih (h4 j hj) new⟩
theorem IsSy.up {d : Nat} : ∀ {L : List Pt} {i : Nat} {s : Sy}, IsSy d L i s → IsSy (d + 1) L i s := by
  induction d with
  | zero => intro L i s h; exact h.elim
  | succ d ih => intro L i s h; exact ⟨h.1, h.2.1, h.2.2.1, fun j hj => ih (h.2.2.2 j hj)⟩
/-- How many parts. -/
def cS : Nat → Sy → Nat
  | 0, _ => 0
  | d + 1, s => 1 + (s.kids.map (cS d)).sum
/-- What reading leaves. -/
structure Got (d i n : Nat) (L : List Pt) (s : Sy) (r : Rd) : Prop where
  ok : r.ok = true
  at_ : r.i = i + n
  new : ∃ new, r.L = L ++ new
  len : r.L.length = L.length + cS d s
  top : r.top + 1 = r.L.length
  is : IsSy d r.L r.top s
/-- A word that joins nothing at this level and those above it. -/
def NoJ (n : Nat) (t : Tok) : Prop := ∀ m, n ≤ m → isChain m → joins m t = false
theorem NoJ.up {n : Nat} {t : Tok} (h : NoJ n t) : NoJ (n + 1) t := fun m hm hc => h m (by omega) hc
/-- These words are read as this tree, at a level. -/
def RdS (d n : Nat) (ws : List (Nat × List UInt8)) (s : Sy) : Prop :=
  ∀ (ts : List Tok) (i : Nat) (L : List Pt) (x f : Nat) (r : Rd), Mt ts i ws → NoJ (if n = 6 then 0 else n) (tokAt ts (i + ws.length)) → P f n ts i L x = some r → Got d i ws.length L s r
def isWw (w : Nat × List UInt8) (x : List UInt8) : Bool := (w.1 == 107 || w.1 == 115) && w.2 == x
theorem isW_wd {t : Tok} {w : Nat × List UInt8} (h : wd t = w) (x : List UInt8) : isW t x = isWw w x := by subst h; rfl
/-- The first word is this one, not one that opens another form. -/
def Hd (ws : List (Nat × List UInt8)) : Prop := ∃ w r, ws = w :: r ∧ isWw w wNot = false ∧ isWw w wIf = false
theorem Hd.more {ws : List (Nat × List UInt8)} (h : Hd ws) (m : List (Nat × List UInt8)) : Hd (ws ++ m) := by
  obtain ⟨w, r, rfl, h⟩ := h
  exact ⟨w, r ++ m, rfl, h⟩
theorem P_zero {n : Nat} {ts : List Tok} {i x : Nat} {L : List Pt} {r : Rd} (h : P 0 n ts i L x = some r) : False := by rw [P] at h; cases h
theorem RdS.chain {d n : Nat} {ws : List (Nat × List UInt8)} {s : Sy} (hn : isChain n) (h : RdS d (n + 1) ws s) : RdS d n ws s := by
  intro ts i L x f r hm hj hP
  have h6 : n ≠ 6 := by unfold isChain at hn; omega
  have h5 : n + 1 ≠ 6 := by unfold isChain at hn; omega
  rw [if_neg h6] at hj
  cases f with
  | zero => exact (P_zero hP).elim
  | succ f =>
    obtain ⟨a, ha, hr⟩ := chain_split hn hP
    have g := h ts i L 0 f a hm (by rw [if_neg h5]; exact hj.up) ha
    rcases hr with ⟨_, hr⟩ | ⟨e, _⟩
    · cases f with
      | zero => exact (P_zero hr).elim
      | succ f =>
        have := loop_no hn hr (by rw [g.at_]; exact hj n (Nat.le_refl _) hn)
        subst this
        exact ⟨rfl, g.at_, g.new, g.len, g.top, g.is⟩
    · rw [g.ok] at e; cases e
theorem RdS.part {d : Nat} {ws : List (Nat × List UInt8)} {s : Sy} (hh : Hd ws) (h : RdS d 3 ws s) : RdS d 2 ws s := by
  intro ts i L x f r hm hj hP
  cases f with
  | zero => exact (P_zero hP).elim
  | succ f =>
    obtain ⟨w, q, rfl, h1, _⟩ := hh
    exact h ts i L 0 f r hm hj.up (not_no hP (by rw [isW_wd hm.1, h1]; simp))
theorem RdS.cond {d : Nat} {ws : List (Nat × List UInt8)} {s : Sy} (hh : ∃ w r, ws = w :: r ∧ isWw w wIf = false) (h : RdS d 0 ws s) : RdS d 6 ws s := by
  intro ts i L x f r hm hj hP
  cases f with
  | zero => exact (P_zero hP).elim
  | succ f =>
    obtain ⟨w, q, rfl, h1⟩ := hh
    exact h ts i L 0 f r hm hj (if_not hP (by rw [isW_wd hm.1, h1]; simp))
theorem Hd.if_ {ws : List (Nat × List UInt8)} (h : Hd ws) : ∃ w r, ws = w :: r ∧ isWw w wIf = false := by
  obtain ⟨w, r, e, _, h⟩ := h; exact ⟨w, r, e, h⟩
theorem RdS.to4 {d : Nat} {ws : List (Nat × List UInt8)} {s : Sy} (h : RdS d 5 ws s) : RdS d 4 ws s := h.chain (by simp [isChain])
theorem RdS.to3 {d : Nat} {ws : List (Nat × List UInt8)} {s : Sy} (h : RdS d 4 ws s) : RdS d 3 ws s := h.chain (by simp [isChain])
theorem RdS.to1 {d : Nat} {ws : List (Nat × List UInt8)} {s : Sy} (h : RdS d 2 ws s) : RdS d 1 ws s := h.chain (by simp [isChain])
theorem RdS.to0 {d : Nat} {ws : List (Nat × List UInt8)} {s : Sy} (h : RdS d 1 ws s) : RdS d 0 ws s := h.chain (by simp [isChain])
/-- From the innermost level to one further out. -/
theorem RdS.out {d n : Nat} {ws : List (Nat × List UInt8)} {s : Sy} (hh : Hd ws) (h : RdS d 5 ws s) (hn : n ≤ 6) : RdS d n ws s := by
  have h4 := h.to4
  have h3 := h4.to3
  have h2 := h3.part hh
  have h1 := h2.to1
  have h0 := h1.to0
  have h6 := h0.cond hh.if_
  match n, hn with
  | 0, _ => exact h0
  | 1, _ => exact h1
  | 2, _ => exact h2
  | 3, _ => exact h3
  | 4, _ => exact h4
  | 5, _ => exact h
  | 6, _ => exact h6
theorem RdS.from_ {d n : Nat} {ws : List (Nat × List UInt8)} {s : Sy} (hh : Hd ws) (hn : isChain n) (h : RdS d n ws s) : RdS d 6 ws s := by
  rcases hn with rfl | rfl | rfl | rfl
  · exact h.cond hh.if_
  · exact h.to0.cond hh.if_
  · exact (h.part hh).to1.to0.cond hh.if_
  · exact (h.to3.part hh).to1.to0.cond hh.if_
theorem RdS.up {d n : Nat} {ws : List (Nat × List UInt8)} {s : Sy} (hc : cS (d + 1) s = cS d s) (h : RdS d n ws s) : RdS (d + 1) n ws s := fun ts i L x f r hm hj hP => by
  have g := h ts i L x f r hm hj hP
  exact ⟨g.ok, g.at_, g.new, by rw [hc]; exact g.len, g.top, g.is.up⟩
theorem joins_wd {t : Tok} {w : Nat × List UInt8} (h : wd t = w) (n : Nat) : joins n t = joins n ⟨w.1, w.2, 0⟩ := by subst h; rfl
theorem joins_which {n : Nat} {t : Tok} (hn : isChain n) (h : joins n t = true) : NoJ (n + 1) t := by
  unfold joins at h
  have hx : 0 ≤ idx (signsOf n) t.text := by simp at h; exact h.1
  intro m hm hc
  unfold isChain at hn hc
  unfold joins
  have key : idx (signsOf m) t.text < 0 := by
    rcases hn with rfl | rfl | rfl | rfl
    · have : t.text = [111, 114] := by
        unfold signsOf at hx; simp only [if_true] at hx; unfold idx at hx; split at hx
        · rename_i e; simp at e; exact e.symm
        · unfold idx at hx; simp at hx
      rcases hc with rfl | rfl | rfl | rfl <;> first | omega | (rw [this]; decide)
    · have : t.text = [97, 110, 100] := by
        unfold signsOf at hx; simp at hx; unfold idx at hx; split at hx
        · rename_i e; simp at e; exact e.symm
        · unfold idx at hx; simp at hx
      rcases hc with rfl | rfl | rfl | rfl <;> first | omega | (rw [this]; decide)
    · have : t.text = [61] ∨ t.text = [60] ∨ t.text = [60, 61] := by
        by_cases h1 : t.text = [61]
        · exact .inl h1
        by_cases h2 : t.text = [60]
        · exact .inr (.inl h2)
        by_cases h3 : t.text = [60, 61]
        · exact .inr (.inr h3)
        exfalso
        simp [signsOf, idx, Ne.symm h1, Ne.symm h2, Ne.symm h3] at hx
      rcases hc with rfl | rfl | rfl | rfl <;> first | omega | (rcases this with e | e | e <;> (rw [e]; decide))
    · rcases hc with rfl | rfl | rfl | rfl <;> omega
  have : decide (0 ≤ idx (signsOf m) t.text) = false := by simp; omega
  rw [this]; rfl
theorem is_two {d : Nat} {L : List Pt} {a b : Nat} {sa sb : Sy} {t : Tok} {s : Sy} (hs : SameW t s) (hk : s.kids = [sa, sb]) (h1 : IsSy d L a sa) (h2 : IsSy d L b sb) : IsSy (d + 1) (L ++ [⟨t, [a, b]⟩]) L.length s := by
  refine ⟨by simp, by rw [getD_last]; exact hs, by rw [getD_last, hk]; rfl, fun j hj => ?_⟩
  rw [getD_last, hk]
  rw [hk] at hj
  match j, hj with
  | 0, _ => exact h1.more _
  | 1, _ => exact h2.more _
/-- Two conditions with a sign between them. -/
theorem RdS.two {d n : Nat} {wa wb : List (Nat × List UInt8)} {sa sb : Sy} {w : Nat × List UInt8} (hn : isChain n) (hw : joins n ⟨w.1, w.2, 0⟩ = true) (ha : RdS d (n + 1) wa sa) (hb : RdS d (n + 1) wb sb) : RdS (d + 1) n (wa ++ w :: wb) ⟨w.1, w.2, [sa, sb]⟩ := by
  intro ts i L x f r hm hj hP
  have h6 : n ≠ 6 := by unfold isChain at hn; omega
  have h5 : n + 1 ≠ 6 := by unfold isChain at hn; omega
  have hk110 : w.1 ≠ 110 := by unfold joins at hw; simp at hw; omega
  rw [if_neg h6] at hj
  have hlen : (wa ++ w :: wb).length = wa.length + 1 + wb.length := by simp; omega
  rw [hlen] at hj ⊢
  have hma := hm.left
  obtain ⟨hmw, hmb⟩ := hm.right
  have hjw : joins n (tokAt ts (i + wa.length)) = true := by rw [joins_wd hmw]; exact hw
  cases f with
  | zero => exact (P_zero hP).elim
  | succ f =>
    obtain ⟨a, hPa, hr⟩ := chain_split hn hP
    have g := ha ts i L 0 f a hma (by rw [if_neg h5]; exact joins_which hn hjw) hPa
    rcases hr with ⟨_, hr⟩ | ⟨e, _⟩
    · cases f with
      | zero => exact (P_zero hr).elim
      | succ f =>
        rw [g.at_] at hr
        obtain ⟨b, hPb, hb'⟩ := loop_yes hn hr hjw
        have hje : NoJ n (tokAt ts (i + wa.length + 1 + wb.length)) := by rw [show i + wa.length + 1 + wb.length = i + (wa.length + 1 + wb.length) from by omega]; exact hj
        have q := hb ts (i + wa.length + 1) a.L 0 f b hmb (by rw [if_neg h5]; exact hje.up) hPb
        have hsw : SameW (tokAt ts (i + wa.length)) ⟨w.1, w.2, [sa, sb]⟩ := by
          have e := hmw
          unfold wd at e
          refine ⟨by rw [← e], ?_⟩
          show (if w.1 = 110 then _ else _)
          rw [if_neg hk110, ← e]
        obtain ⟨na, hna⟩ := g.new
        obtain ⟨nb, hnb⟩ := q.new
        have ia : IsSy d b.L a.top sa := by rw [hnb]; exact g.is.more _
        have hI : IsSy (d + 1) (b.L ++ [⟨tokAt ts (i + wa.length), [a.top, b.top]⟩]) b.L.length ⟨w.1, w.2, [sa, sb]⟩ := is_two hsw rfl ia q.is
        have hL : ∃ new, b.L ++ [⟨tokAt ts (i + wa.length), [a.top, b.top]⟩] = L ++ new := ⟨na ++ nb ++ [⟨tokAt ts (i + wa.length), [a.top, b.top]⟩], by rw [hnb, hna]; simp⟩
        have hc : (b.L ++ [(⟨tokAt ts (i + wa.length), [a.top, b.top]⟩ : Pt)]).length = L.length + cS (d + 1) ⟨w.1, w.2, [sa, sb]⟩ := by
          simp [cS]; rw [q.len, g.len]; omega
        rcases hb' with ⟨e, _⟩ | ⟨_, ⟨_, hr⟩ | ⟨_, hr⟩⟩
        · rw [q.ok] at e; cases e
        · subst hr
          exact ⟨rfl, by show b.i = _; rw [q.at_]; omega, hL, hc, by simp [put], hI⟩
        · cases f with
          | zero => exact (P_zero hr).elim
          | succ f =>
            have := loop_no hn hr (by rw [q.at_]; exact hje n (Nat.le_refl _) hn)
            subst this
            exact ⟨rfl, by show b.i = _; rw [q.at_]; omega, hL, hc, by simp, hI⟩
    · rw [g.ok] at e; cases e
/-- A condition in brackets. -/
theorem noJ_sign {t : Tok} {n : Nat} (h : wd t = (115, [41]) ∨ wd t = (115, [59]) ∨ wd t = (107, wThen) ∨ wd t = (107, wElse)) : NoJ n t := by
  intro m _ hc
  unfold isChain at hc
  rcases h with h | h | h | h <;> (rw [joins_wd h]; rcases hc with rfl | rfl | rfl | rfl <;> decide)
theorem RdS.brackets {d : Nat} {ws : List (Nat × List UInt8)} {s : Sy} (h : RdS d 6 ws s) : RdS d 5 ((115, [40]) :: (ws ++ [(115, [41])])) s := by
  intro ts i L x f r hm _ hP
  cases f with
  | zero => exact (P_zero hP).elim
  | succ f =>
    obtain ⟨h1, h2⟩ := hm
    obtain ⟨h3, _⟩ := h2.right
    obtain ⟨a, ha, hr⟩ := one_open hP (by rw [isW_wd h1]; rfl)
    have g := h ts (i + 1) L 0 f a h2.left (noJ_sign (.inl h3)) ha
    have hcl : isW (tokAt ts a.i) [41] = true := by rw [g.at_, isW_wd h3]; rfl
    rcases hr with ⟨_, _, rfl⟩ | ⟨hn, _⟩
    · exact ⟨g.ok, by show a.i + 1 = _; rw [g.at_]; simp; omega, g.new, g.len, g.top, g.is⟩
    · exact absurd ⟨g.ok, hcl⟩ hn
theorem hd_brackets (ws : List (Nat × List UInt8)) : Hd ((115, [40]) :: ws) := ⟨_, _, rfl, by decide, by decide⟩
/-- A condition with 'not' ahead of it. -/
theorem RdS.not_ {d : Nat} {ws : List (Nat × List UInt8)} {s : Sy} (h : RdS d 2 ws s) : RdS (d + 1) 2 ((107, wNot) :: ws) ⟨107, wNot, [s]⟩ := by
  intro ts i L x f r hm hj hP
  cases f with
  | zero => exact (P_zero hP).elim
  | succ f =>
    obtain ⟨h1, h2⟩ := hm
    obtain ⟨a, ha, ok, hi, hr⟩ := not_yes hP (by rw [isW_wd h1]; rfl)
    have g := h ts (i + 1) L 0 f a h2 (by rw [show i + 1 + ws.length = i + ((107, wNot) :: ws).length from by simp; omega]; exact hj) ha
    have := hr g.ok
    subst this
    obtain ⟨na, hna⟩ := g.new
    refine ⟨rfl, by show a.i = _; rw [g.at_]; simp; omega, ⟨na ++ [Pt.mk (tokAt ts i) [a.top]], by show a.L ++ _ = _; rw [hna]; simp⟩, by simp [put, cS]; rw [g.len]; omega, by simp [put], ?_⟩
    refine ⟨by simp [put], ?_, ?_, fun j hj' => ?_⟩
    · show SameW ((a.L ++ [Pt.mk (tokAt ts i) [a.top]]).getD a.L.length noPt).tok _
      rw [getD_last]
      have e := h1
      unfold wd at e
      exact ⟨by have := congrArg Prod.fst e; exact this, by rw [if_neg (by show ¬ 107 = 110; decide)]; have := congrArg Prod.snd e; exact this⟩
    · show ((a.L ++ [Pt.mk (tokAt ts i) [a.top]]).getD a.L.length noPt).subs.length = _
      rw [getD_last]; rfl
    · show IsSy d (a.L ++ [Pt.mk (tokAt ts i) [a.top]]) (((a.L ++ [Pt.mk (tokAt ts i) [a.top]]).getD a.L.length noPt).subs.getD j 0) _
      rw [getD_last]
      match j, hj' with
      | 0, _ => exact g.is.more _
/-- A choice. -/
theorem RdS.if_ {d : Nat} {wa wb wc : List (Nat × List UInt8)} {sa sb sc : Sy} (ha : RdS d 6 wa sa) (hb : RdS d 6 wb sb) (hc : RdS d 6 wc sc) : RdS (d + 1) 6 ((107, wIf) :: (wa ++ (107, wThen) :: (wb ++ (107, wElse) :: wc))) ⟨107, wIf, [sa, sb, sc]⟩ := by
  intro ts i L x f r hm hj hP
  have hlen : ((107, wIf) :: (wa ++ (107, wThen) :: (wb ++ (107, wElse) :: wc))).length = 1 + wa.length + 1 + wb.length + 1 + wc.length := by simp; omega
  rw [hlen] at hj ⊢
  cases f with
  | zero => exact (P_zero hP).elim
  | succ f =>
    obtain ⟨h1, h2⟩ := hm
    have ma := h2.left
    obtain ⟨h3, h4⟩ := h2.right
    have mb := h4.left
    obtain ⟨h5, mc⟩ := h4.right
    obtain ⟨a, b, c, pa, nb, nc, ok, hi, hr⟩ := if_split hP (by rw [isW_wd h1]; rfl)
    have g := ha ts (i + 1) L 0 f a ma (noJ_sign (.inr (.inr (.inl h3)))) pa
    unfold Nx at nb nc
    rw [if_pos ⟨g.ok, by rw [g.at_, isW_wd h3]; rfl⟩, g.at_] at nb
    have q := hb ts _ a.L 0 f b mb (noJ_sign (.inr (.inr (.inr h5)))) nb
    rw [if_pos ⟨q.ok, by rw [q.at_, isW_wd h5]; rfl⟩, q.at_] at nc
    have u := hc ts _ b.L 0 f c mc (by rw [show i + 1 + wa.length + 1 + wb.length + 1 + wc.length = i + (1 + wa.length + 1 + wb.length + 1 + wc.length) from by omega]; exact hj) nc
    obtain ⟨_, _, rfl⟩ := hr u.ok
    obtain ⟨na, hna⟩ := g.new
    obtain ⟨nb', hnb⟩ := q.new
    obtain ⟨nc', hnc⟩ := u.new
    have ia : IsSy d c.L a.top sa := by rw [hnc, hnb]; exact (g.is.more _).more _
    have ib : IsSy d c.L b.top sb := by rw [hnc]; exact q.is.more _
    refine ⟨rfl, by show c.i = _; rw [u.at_]; omega, ⟨na ++ nb' ++ nc' ++ [Pt.mk (tokAt ts i) [a.top, b.top, c.top]], by show c.L ++ _ = _; rw [hnc, hnb, hna]; simp⟩, by simp [put, cS]; rw [u.len, q.len, g.len]; omega, by simp [put], ?_⟩
    refine ⟨by simp [put], ?_, ?_, fun j hj' => ?_⟩
    · show SameW ((c.L ++ [Pt.mk (tokAt ts i) [a.top, b.top, c.top]]).getD c.L.length noPt).tok _
      rw [getD_last]
      have e := h1
      unfold wd at e
      exact ⟨by have := congrArg Prod.fst e; exact this, by rw [if_neg (by show ¬ 107 = 110; decide)]; have := congrArg Prod.snd e; exact this⟩
    · show ((c.L ++ [Pt.mk (tokAt ts i) [a.top, b.top, c.top]]).getD c.L.length noPt).subs.length = _
      rw [getD_last]; rfl
    · show IsSy d (c.L ++ [Pt.mk (tokAt ts i) [a.top, b.top, c.top]]) (((c.L ++ [Pt.mk (tokAt ts i) [a.top, b.top, c.top]]).getD c.L.length noPt).subs.getD j 0) _
      rw [getD_last]
      match j, hj' with
      | 0, _ => exact ia.more _
      | 1, _ => exact ib.more _
      | 2, _ => exact u.is.more _
/-- A word that stands alone. -/
theorem RdS.one {d : Nat} {w : Nat × List UInt8} {s : Sy} (ha : alone ⟨w.1, w.2, 0⟩ = true) (hk : s.kids = []) (hs : SameW ⟨w.1, w.2, 0⟩ s) : RdS (d + 1) 5 [w] s := by
  intro ts i L x f r hm _ hP
  cases f with
  | zero => exact (P_zero hP).elim
  | succ f =>
    obtain ⟨h1, _⟩ := hm
    have e : alone (tokAt ts i) = true := by subst h1; exact ha
    have e40 : ¬ isW (tokAt ts i) [40] = true := by
      rw [isW_wd h1]
      intro h
      unfold isWw at h
      unfold alone at ha
      simp only [Bool.and_eq_true, beq_iff_eq] at h
      rw [h.2] at ha
      revert ha
      have h1 := h.1
      simp at h1
      rcases h1 with h1 | h1 <;> rw [h1] <;> decide
    rcases one_alone hP e40 with ⟨_, rfl⟩ | ⟨e', _⟩
    · refine ⟨rfl, rfl, ⟨_, rfl⟩, by simp [cS, hk], by simp, by simp, ?_, ?_, fun j hj => ?_⟩
      · show SameW ((L ++ [Pt.mk (tokAt ts i) []]).getD L.length noPt).tok _
        rw [getD_last]; subst h1; exact hs
      · show ((L ++ [Pt.mk (tokAt ts i) []]).getD L.length noPt).subs.length = _
        rw [getD_last, hk]; rfl
      · rw [hk] at hj; exact absurd hj (by simp)
    · rw [e] at e'; cases e'
theorem hd_one {w : Nat × List UInt8} (ha : alone ⟨w.1, w.2, 0⟩ = true) : Hd [w] := by
  refine ⟨w, [], rfl, ?_, ?_⟩ <;>
  · rw [Bool.eq_false_iff]
    intro h
    unfold isWw at h
    unfold alone at ha
    simp only [Bool.and_eq_true, beq_iff_eq] at h
    rw [h.2] at ha
    revert ha
    have h1 := h.1
    simp at h1
    rcases h1 with h1 | h1 <;> rw [h1] <;> decide
end Go.Proofs.YtfkdailfcmnjlaaGreatDoor

namespace Go.Proofs.YtfkdailfcmnjlaaGreatDoor
set_option maxRecDepth 100000

/-- The word that bytes begin with. -/
def wordS (s : List UInt8) : Option (Nat × List UInt8) :=
  if s.takeWhile isD ≠ [] then (if big (s.takeWhile isD) then none else some (110, s.takeWhile isD))
  else if s.takeWhile isL ≠ [] then
    (if isKw (s.takeWhile isL) then some (107, s.takeWhile isL)
     else if (s.takeWhile isL).length ≤ 8 then some (111, s.takeWhile isL) else none)
  else match s with
    | [] => none
    | c :: r =>
      if c.toNat = 60 then (if (r.getD 0 0).toNat = 61 then some (115, [60, 61]) else some (115, [60]))
      else if c.toNat = 40 ∨ c.toNat = 41 ∨ c.toNat = 59 ∨ c.toNat = 43 ∨ c.toNat = 45 ∨ c.toNat = 61 then some (115, [c])
      else none
theorem cut_stopS (p : UInt8 → Bool) (l : List UInt8) (a : Nat) : cut l a (stop p l a) = (l.drop a).takeWhile p := by
  unfold cut stop
  rw [Nat.add_sub_cancel_left]
  generalize l.drop a = s
  induction s with
  | nil => rfl
  | cons c s ih =>
    by_cases h : p c = true
    · rw [List.takeWhile_cons_of_pos h]; simp [ih]
    · rw [List.takeWhile_cons_of_neg h]; rfl
theorem wordAt_drop (l : List UInt8) (a : Nat) : wordAt l a = (wordS (l.drop a)).map fun w => ⟨w.1, w.2, a⟩ := by
  unfold wordAt wordS
  rw [cut_stopS, cut_stopS]
  have h1 : ∀ p : UInt8 → Bool, (a < stop p l a) ↔ (l.drop a).takeWhile p ≠ [] := fun p => by
    unfold stop
    rw [← List.length_pos_iff]
    omega
  have h2 : ∀ p : UInt8 → Bool, stop p l a - a = ((l.drop a).takeWhile p).length := fun p => by unfold stop; omega
  rw [h2]
  by_cases hd : a < stop isD l a
  · rw [if_pos hd, if_pos ((h1 _).1 hd)]; split <;> rfl
  rw [if_neg hd, if_neg (fun h => hd ((h1 _).2 h))]
  by_cases hl : a < stop isL l a
  · rw [if_pos hl, if_pos ((h1 _).1 hl)]; split
    · rfl
    · split <;> rfl
  rw [if_neg hl, if_neg (fun h => hl ((h1 _).2 h))]
  have e0 : l[a]? = (l.drop a)[0]? := by rw [List.getElem?_drop]; rfl
  have e1 : l.getD (a + 1) 0 = (l.drop a).getD 1 0 := by rw [List.getD_eq_getElem?_getD, List.getD_eq_getElem?_getD, List.getElem?_drop]
  rw [e0, e1]
  cases l.drop a with
  | nil => rfl
  | cons c r =>
    simp only [List.getElem?_cons_zero, List.getD_cons_succ]
    repeat' split
    all_goals rfl
/-- The words of bytes. -/
def lx : Nat → List UInt8 → Option (List (Nat × List UInt8))
  | 0, _ => none
  | f + 1, l =>
    if l.dropWhile isB = [] then some []
    else match wordS (l.dropWhile isB) with
      | none => none
      | some w => (lx f ((l.dropWhile isB).drop w.2.length)).map fun r => w :: r
theorem drop_stop (p : UInt8 → Bool) (l : List UInt8) (a : Nat) : l.drop (stop p l a) = (l.drop a).dropWhile p := by
  unfold stop
  rw [← List.drop_drop]
  generalize l.drop a = s
  induction s with
  | nil => rfl
  | cons c s ih =>
    by_cases h : p c = true
    · rw [List.takeWhile_cons_of_pos h, List.dropWhile_cons_of_pos h]; simpa using ih
    · rw [List.takeWhile_cons_of_neg h, List.dropWhile_cons_of_neg h]; rfl
/-- What the plain cutter of words gives. -/
theorem lex_lx (l : List UInt8) (f : Nat) : ∀ (a : Nat) (ws : List (Nat × List UInt8)), lx f (l.drop a) = some ws → ∃ ts, lex f l a = (ts, none) ∧ ts.map wd = ws ++ [(101, [])] := by
  induction f with
  | zero => intro a ws h; cases h
  | succ f ih =>
    intro a ws h
    rw [lx, ← drop_stop] at h
    rw [lex]
    by_cases he : l.drop (stop isB l a) = []
    · rw [if_pos he] at h
      rw [if_pos (List.drop_eq_nil_iff.1 he)]
      simp at h; subst h
      exact ⟨_, rfl, rfl⟩
    · rw [if_neg he] at h
      rw [if_neg (fun e => he (List.drop_eq_nil_iff.2 e)), wordAt_drop]
      cases hw : wordS (l.drop (stop isB l a)) with
      | none => rw [hw] at h; cases h
      | some w =>
        rw [hw] at h
        simp only [Option.map_eq_some_iff] at h
        obtain ⟨r, hr, rfl⟩ := h
        rw [List.drop_drop] at hr
        obtain ⟨ts, h1, h2⟩ := ih _ _ hr
        simp only [Option.map_some]
        rw [h1]
        exact ⟨_, rfl, by rw [List.map_cons, h2]; rfl⟩
/-- These bytes have these words. -/
def LX (l : List UInt8) (ws : List (Nat × List UInt8)) : Prop := ∀ f, l.length < f → lx f l = some ws
/-- What follows is no letter and no digit. -/
def Off (s : List UInt8) : Prop := ∀ c r, s = c :: r → isD c = false ∧ isL c = false
theorem LX.nil : LX [] [] := fun f h => by
  obtain ⟨f, rfl⟩ : ∃ g, f = g + 1 := ⟨f - 1, by simp at h; omega⟩
  rfl
theorem lx_blank {c : UInt8} (hc : isB c = true) (f : Nat) (s : List UInt8) : lx (f + 1) (c :: s) = lx (f + 1) s := by
  rw [lx, lx, List.dropWhile_cons_of_pos hc]
theorem LX.blank {c : UInt8} (hc : isB c = true) {s : List UInt8} {ws : List (Nat × List UInt8)} (h : LX s ws) : LX (c :: s) ws := fun f hf => by
  obtain ⟨f, rfl⟩ : ∃ g, f = g + 1 := ⟨f - 1, by omega⟩
  rw [lx_blank hc]; exact h _ (by simp at hf; omega)
/-- A word ahead of what has words. -/
theorem LX.word {s w : List UInt8} {k : Nat} {ws : List (Nat × List UInt8)} (h : LX s ws) (hb : ∀ c r, w ++ s = c :: r → isB c = false) (hw : wordS (w ++ s) = some (k, w)) (h0 : w ≠ []) : LX (w ++ s) ((k, w) :: ws) := fun f hf => by
  obtain ⟨f, rfl⟩ : ∃ g, f = g + 1 := ⟨f - 1, by omega⟩
  have hd : (w ++ s).dropWhile isB = w ++ s := by
    cases e : w ++ s with
    | nil => rfl
    | cons c r => rw [List.dropWhile_cons_of_neg]; rw [hb c r e]; simp
  have hl := List.length_pos_iff.2 h0
  rw [lx, hd, if_neg (by simp [h0]), hw]
  simp only []
  rw [List.drop_left, h f (by simp at hf; omega)]
  rfl
theorem tw_all {p : UInt8 → Bool} {w s : List UInt8} (hw : ∀ c ∈ w, p c = true) (hs : ∀ c r, s = c :: r → p c = false) : (w ++ s).takeWhile p = w := by
  induction w with
  | nil =>
    cases s with
    | nil => rfl
    | cons c r => rw [List.nil_append, List.takeWhile_cons_of_neg]; rw [hs c r rfl]; simp
  | cons c w ih =>
    rw [List.cons_append, List.takeWhile_cons_of_pos (hw c (by simp)), ih (fun d hd => hw d (by simp [hd]))]
theorem tw_no {p : UInt8 → Bool} {c : UInt8} {s : List UInt8} (h : p c = false) : (c :: s).takeWhile p = [] := by
  rw [List.takeWhile_cons_of_neg]; rw [h]; simp
theorem letter_not {c : UInt8} (h : isL c = true) : isD c = false ∧ isB c = false := by
  simp [isL] at h
  constructor
  · simp [isD]; omega
  · simp [isB]; omega
theorem digit_not {c : UInt8} (h : isD c = true) : isL c = false ∧ isB c = false := by
  simp [isD] at h
  constructor
  · simp [isL]; omega
  · simp [isB]; omega
/-- A keyword. -/
theorem LX.letters {s w : List UInt8} {ws : List (Nat × List UInt8)} (h : LX s ws) (hs : Off s) (h0 : w ≠ []) (hw : ∀ c ∈ w, isL c = true) {k : Nat} (hk : (isKw w = true ∧ k = 107) ∨ (isKw w = false ∧ w.length ≤ 8 ∧ k = 111)) : LX (w ++ s) ((k, w) :: ws) := by
  obtain ⟨c, r, rfl⟩ : ∃ c r, w = c :: r := by cases w with
    | nil => exact absurd rfl h0
    | cons c r => exact ⟨c, r, rfl⟩
  have hc := hw c (by simp)
  refine h.word (fun d q e => ?_) ?_ (by simp)
  · simp at e; rw [← e.1]; exact (letter_not hc).2
  · unfold wordS
    rw [tw_all hw (fun d q e => (hs d q e).2)]
    rw [show (c :: r ++ s).takeWhile isD = [] from tw_no (letter_not hc).1]
    rw [if_neg (by simp), if_pos (by simp)]
    rcases hk with ⟨h1, rfl⟩ | ⟨h1, h2, rfl⟩
    · rw [if_pos h1]
    · rw [if_neg (by rw [h1]; simp), if_pos h2]
/-- A number. -/
theorem LX.digits {s w : List UInt8} {ws : List (Nat × List UInt8)} (h : LX s ws) (hs : Off s) (h0 : w ≠ []) (hw : ∀ c ∈ w, isD c = true) (hb : decVal w ≤ 9223372036854775807) : LX (w ++ s) ((110, w) :: ws) := by
  obtain ⟨c, r, rfl⟩ : ∃ c r, w = c :: r := by cases w with
    | nil => exact absurd rfl h0
    | cons c r => exact ⟨c, r, rfl⟩
  have hc := hw c (by simp)
  refine h.word (fun d q e => ?_) ?_ (by simp)
  · simp at e; rw [← e.1]; exact (digit_not hc).2
  · unfold wordS
    rw [tw_all hw (fun d q e => (hs d q e).1), if_pos (by simp), if_neg]
    unfold big; simp; omega
/-- A sign of one byte. -/
theorem LX.sign {c : UInt8} {s : List UInt8} {ws : List (Nat × List UInt8)} (h : LX s ws) (hc : c.toNat = 40 ∨ c.toNat = 41 ∨ c.toNat = 59 ∨ c.toNat = 43 ∨ c.toNat = 45 ∨ c.toNat = 61) : LX (c :: s) ((115, [c]) :: ws) := by
  refine h.word (w := [c]) (fun d q e => ?_) ?_ (by simp)
  · simp at e; rw [← e.1]; simp [isB]; omega
  · show wordS (c :: s) = _
    unfold wordS
    rw [tw_no (by simp [isD]; omega), tw_no (by simp [isL]; omega), if_neg (by simp), if_neg (by simp)]
    show (if c.toNat = 60 then _ else _) = _
    rw [if_neg (by omega), if_pos hc]
theorem LX.less {s : List UInt8} {ws : List (Nat × List UInt8)} (h : LX s ws) (hs : ∀ c r, s = c :: r → c.toNat ≠ 61) : LX (60 :: s) ((115, [60]) :: ws) := by
  refine h.word (w := [60]) (fun d q e => ?_) ?_ (by simp)
  · simp at e; rw [← e.1]; decide
  · show wordS (60 :: s) = _
    unfold wordS
    rw [tw_no (by decide), tw_no (by decide), if_neg (by simp), if_neg (by simp)]
    show (if (60 : UInt8).toNat = 60 then (if (s.getD 0 0).toNat = 61 then _ else _) else _) = _
    rw [if_pos (by decide), if_neg]
    cases s with
    | nil => decide
    | cons c r => exact hs c r rfl
theorem LX.atMost {s : List UInt8} {ws : List (Nat × List UInt8)} (h : LX s ws) : LX (60 :: 61 :: s) ((115, [60, 61]) :: ws) := by
  refine h.word (w := [60, 61]) (fun d q e => ?_) ?_ (by simp)
  · simp at e; rw [← e.1]; decide
  · show wordS (60 :: 61 :: s) = _
    unfold wordS
    rw [tw_no (by decide), tw_no (by decide), if_neg (by simp), if_neg (by simp)]
    rfl
theorem off_cons {c : UInt8} (h : isD c = false ∧ isL c = false) (s : List UInt8) : Off (c :: s) := fun d r e => by
  simp at e; rw [← e.1]; exact h
end Go.Proofs.YtfkdailfcmnjlaaGreatDoor

namespace Go.Proofs.YtfkdailfcmnjlaaGreatDoor
set_option maxRecDepth 100000

/-- The words that stand alone; those between two. -/
def leafWs : List (List UInt8) := kMembers ++ kFields ++ [wTrue, wFalse]
def twoWs : List (Nat × List UInt8) := [(107, [111, 114]), (107, [97, 110, 100]), (115, [61]), (115, [60]), (115, [60, 61]), (115, [43]), (115, [45])]
def ShL (s : Sy) : Prop := (s.k = 110 ∧ decVal s.text ≤ 9223372036854775807) ∨ (s.k = 111 ∧ s.text ≠ [] ∧ (∀ c ∈ s.text, isL c = true) ∧ isKw s.text = false ∧ s.text.length ≤ 8) ∨ (s.k = 107 ∧ s.text ∈ leafWs)
/-- A condition at most so deep, of the words that there are. -/
def ShS : Nat → Sy → Prop
  | 0, _ => False
  | d + 1, s => ((s.kids = [] ∧ ShL s) ∨ (s.k = 107 ∧ s.text = wNot ∧ s.kids.length = 1) ∨ (s.k = 107 ∧ s.text = wIf ∧ s.kids.length = 3) ∨ ((s.k, s.text) ∈ twoWs ∧ s.kids.length = 2)) ∧ ∀ c ∈ s.kids, ShS d c
/-- What is printed of it. -/
def plainS : Nat → Sy → List UInt8
  | 0, _ => []
  | d + 1, s => if s.k = 110 then tensL (decVal s.text) else overL s.text (s.kids.map (plainS d))
def overWs (w : Nat × List UInt8) : List (List (Nat × List UInt8)) → List (Nat × List UInt8)
  | [] => [w]
  | [a] => (115, [40]) :: (((107, wNot) :: a) ++ [(115, [41])])
  | [a, b] => (115, [40]) :: ((a ++ w :: b) ++ [(115, [41])])
  | a :: b :: c :: _ => (115, [40]) :: (((107, wIf) :: (a ++ (107, wThen) :: (b ++ (107, wElse) :: c))) ++ [(115, [41])])
/-- Its words. -/
def wordsF : Nat → Sy → List (Nat × List UInt8)
  | 0, _ => []
  | d + 1, s => if s.k = 110 then [(110, tensL (decVal s.text))] else overWs (s.k, s.text) (s.kids.map (wordsF d))

theorem ofNat_lt {n : Nat} (h : n < 256) : (UInt8.ofNat n).toNat = n := by simp; omega
theorem dec_snoc (l : List UInt8) (c : UInt8) : decVal (l ++ [c]) = decVal l * 10 + (c.toNat - 48) := by unfold decVal; rw [List.foldl_append]; rfl
theorem tens_ok (f : Nat) : ∀ n, n < 10 ^ f → 0 < f → (∀ c ∈ tensF f n, isD c = true) ∧ decVal (tensF f n) = n ∧ tensF f n ≠ [] := by
  induction f with
  | zero => intro n _ h; omega
  | succ f ih =>
    intro n hn _
    rw [tensF]
    by_cases h : n < 10
    · rw [if_pos h]
      have e : (UInt8.ofNat (48 + n)).toNat = 48 + n := ofNat_lt (by omega)
      refine ⟨fun c hc => ?_, ?_, by simp⟩
      · simp only [List.mem_cons, List.not_mem_nil, or_false] at hc; subst hc; unfold isD; rw [e]; simp; omega
      · unfold decVal; simp only [List.foldl_cons, List.foldl_nil]; rw [e]; omega
    · rw [if_neg h]
      rw [Nat.pow_succ] at hn
      have hf : 0 < f := by
        rcases Nat.eq_zero_or_pos f with rfl | h0
        · simp at hn; omega
        · exact h0
      obtain ⟨h1, h2, h3⟩ := ih (n / 10) (by omega) hf
      have e : (UInt8.ofNat (48 + n % 10)).toNat = 48 + n % 10 := ofNat_lt (by omega)
      refine ⟨fun c hc => ?_, ?_, by simp⟩
      · rw [List.mem_append] at hc
        rcases hc with hc | hc
        · exact h1 c hc
        · simp only [List.mem_cons, List.not_mem_nil, or_false] at hc; subst hc; unfold isD; rw [e]; simp; omega
      · rw [dec_snoc, h2, e]; omega
theorem tensL_ok {n : Nat} (h : n ≤ 9223372036854775807) : (∀ c ∈ tensL n, isD c = true) ∧ decVal (tensL n) = n ∧ tensL n ≠ [] := by
  have : (10 : Nat) ^ 20 = 100000000000000000000 := by decide
  exact tens_ok 20 n (by omega) (by decide)
theorem leaf_word : ∀ x ∈ leafWs, x ≠ [] ∧ (∀ c ∈ x, isL c = true) ∧ isKw x = true ∧ alone ⟨107, x, 0⟩ = true := by decide
theorem one_len {α : Type} {l : List α} (h : l.length = 1) : ∃ a, l = [a] := List.length_eq_one_iff.1 h
theorem two_len {α : Type} {l : List α} (h : l.length = 2) : ∃ a b, l = [a, b] := by
  match l, h with
  | [a, b], _ => exact ⟨a, b, rfl⟩
theorem three_len {α : Type} {l : List α} (h : l.length = 3) : ∃ a b c, l = [a, b, c] := by
  match l, h with
  | [a, b, c], _ => exact ⟨a, b, c, rfl⟩
theorem over_two {w : Nat × List UInt8} (hw : w ∈ twoWs) {s : List UInt8} {ws : List (Nat × List UInt8)} (h : LX s ws) (hs : Off s) (h61 : ∀ c r, s = c :: r → c.toNat ≠ 61) : LX (w.2 ++ s) (w :: ws) := by
  simp only [twoWs, List.mem_cons, List.not_mem_nil, or_false] at hw
  rcases hw with rfl | rfl | rfl | rfl | rfl | rfl | rfl
  · exact h.letters hs (by decide) (by decide) (.inl ⟨by decide, rfl⟩)
  · exact h.letters hs (by decide) (by decide) (.inl ⟨by decide, rfl⟩)
  · exact h.sign (by decide)
  · exact h.less h61
  · exact h.atMost
  · exact h.sign (by decide)
  · exact h.sign (by decide)
theorem off_blank (s : List UInt8) : Off (32 :: s) := off_cons (by decide) s
theorem off_shut (s : List UInt8) : Off (41 :: s) := off_cons (by decide) s
theorem LX.sp {s : List UInt8} {ws : List (Nat × List UInt8)} (h : LX s ws) : LX (32 :: s) ws := h.blank (by decide)
theorem LX.opn {s : List UInt8} {ws : List (Nat × List UInt8)} (h : LX s ws) : LX (40 :: s) ((115, [40]) :: ws) := h.sign (by decide)
theorem LX.shut {s : List UInt8} {ws : List (Nat × List UInt8)} (h : LX s ws) : LX (41 :: s) ((115, [41]) :: ws) := h.sign (by decide)
theorem LX.kw {s : List UInt8} {ws : List (Nat × List UInt8)} (h : LX s ws) (hs : Off s) (w : List UInt8) (hw : w ∈ leafWs ++ kOthers) : LX (w ++ s) ((107, w) :: ws) := by
  have : ∀ w ∈ leafWs ++ kOthers, w ≠ [] ∧ (∀ c ∈ w, isL c = true) ∧ isKw w = true := by decide
  obtain ⟨h1, h2, h3⟩ := this w hw
  exact h.letters hs h1 h2 (.inl ⟨h3, rfl⟩)
/-- The words of what is printed. -/
theorem plain_lex (d : Nat) : ∀ {s : Sy}, ShS d s → ∀ {rest : List UInt8} {ws : List (Nat × List UInt8)}, LX rest ws → Off rest → LX (plainS d s ++ rest) (wordsF d s ++ ws) := by
  induction d with
  | zero => intro s h; exact h.elim
  | succ d ih =>
    intro s h rest ws hr ho
    obtain ⟨hs, hk⟩ := h
    rw [plainS, wordsF]
    by_cases h110 : s.k = 110
    · rw [if_pos h110, if_pos h110]
      have hv : decVal s.text ≤ 9223372036854775807 := by
        rcases hs with ⟨_, ⟨_, h⟩ | ⟨e, _⟩ | ⟨e, _⟩⟩ | ⟨e, _⟩ | ⟨e, _⟩ | ⟨e, _⟩
        · exact h
        · omega
        · omega
        · omega
        · omega
        · rw [h110] at e; simp [twoWs] at e
      obtain ⟨t1, t2, t3⟩ := tensL_ok hv
      exact hr.digits ho t3 t1 (by rw [t2]; exact hv)
    · rw [if_neg h110, if_neg h110]
      rcases hs with ⟨hn, hl⟩ | ⟨e1, e2, hl⟩ | ⟨e1, e2, hl⟩ | ⟨hw, hl⟩
      · rw [hn]
        show LX (s.text ++ rest) ((s.k, s.text) :: ws)
        rcases hl with ⟨e, _⟩ | ⟨e, h1, h2, h3, h4⟩ | ⟨e, h1⟩
        · exact absurd e h110
        · rw [e]; exact hr.letters ho h1 h2 (.inr ⟨h3, h4, rfl⟩)
        · rw [e]
          obtain ⟨g1, g2, g3, _⟩ := leaf_word _ h1
          exact hr.letters ho g1 g2 (.inl ⟨g3, rfl⟩)
      · obtain ⟨a, ha⟩ := one_len hl
        rw [ha] at hk ⊢
        have ka := hk a (by simp)
        show LX (wsNot ++ plainS d a ++ [41] ++ rest) _
        rw [show wsNot ++ plainS d a ++ [41] ++ rest = 40 :: (wNot ++ (32 :: (plainS d a ++ (41 :: rest)))) from by simp [wsNot, wNot]]
        rw [show overWs (s.k, s.text) (List.map (wordsF d) [a]) ++ ws = (115, [40]) :: ((107, wNot) :: (wordsF d a ++ ((115, [41]) :: ws))) from by simp [overWs]]
        exact (((ih ka hr.shut (off_shut _)).sp).kw (off_blank _) wNot (by decide)).opn
      · obtain ⟨a, b, c, ha⟩ := three_len hl
        rw [ha] at hk ⊢
        have ka := hk a (by simp)
        have kb := hk b (by simp)
        have kc := hk c (by simp)
        show LX (wsIf ++ plainS d a ++ wsThen ++ plainS d b ++ wsElse ++ plainS d c ++ [41] ++ rest) _
        rw [show wsIf ++ plainS d a ++ wsThen ++ plainS d b ++ wsElse ++ plainS d c ++ [41] ++ rest = 40 :: (wIf ++ (32 :: (plainS d a ++ (32 :: (wThen ++ (32 :: (plainS d b ++ (32 :: (wElse ++ (32 :: (plainS d c ++ (41 :: rest)))))))))))) from by simp [wsIf, wsThen, wsElse, wIf, wThen, wElse]]
        rw [show overWs (s.k, s.text) (List.map (wordsF d) [a, b, c]) ++ ws = (115, [40]) :: ((107, wIf) :: (wordsF d a ++ ((107, wThen) :: (wordsF d b ++ ((107, wElse) :: (wordsF d c ++ ((115, [41]) :: ws))))))) from by simp [overWs]]
        exact ((ih ka ((ih kb ((ih kc hr.shut (off_shut _)).sp.kw (off_blank _) wElse (by decide)).sp (off_blank _)).sp.kw (off_blank _) wThen (by decide)).sp (off_blank _)).sp.kw (off_blank _) wIf (by decide)).opn
      · obtain ⟨a, b, ha⟩ := two_len hl
        rw [ha] at hk ⊢
        have ka := hk a (by simp)
        have kb := hk b (by simp)
        show LX ([40] ++ plainS d a ++ [32] ++ s.text ++ [32] ++ plainS d b ++ [41] ++ rest) _
        rw [show [40] ++ plainS d a ++ [32] ++ s.text ++ [32] ++ plainS d b ++ [41] ++ rest = 40 :: (plainS d a ++ (32 :: (s.text ++ (32 :: (plainS d b ++ (41 :: rest)))))) from by simp]
        rw [show overWs (s.k, s.text) (List.map (wordsF d) [a, b]) ++ ws = (115, [40]) :: (wordsF d a ++ ((s.k, s.text) :: (wordsF d b ++ ((115, [41]) :: ws)))) from by simp [overWs]]
        refine (ih ka (LX.sp ?_) (off_blank _)).opn
        exact over_two hw (ih kb hr.shut (off_shut _)).sp (off_blank _) (fun c r e => by simp at e; rw [← e.1]; decide)
/-- At which level a sign stands. -/
theorem two_level {w : Nat × List UInt8} (hw : w ∈ twoWs) : ∃ n, isChain n ∧ joins n ⟨w.1, w.2, 0⟩ = true := by
  simp only [twoWs, List.mem_cons, List.not_mem_nil, or_false] at hw
  rcases hw with rfl | rfl | rfl | rfl | rfl | rfl | rfl
  · exact ⟨0, .inl rfl, by decide⟩
  · exact ⟨1, .inr (.inl rfl), by decide⟩
  · exact ⟨3, .inr (.inr (.inl rfl)), by decide⟩
  · exact ⟨3, .inr (.inr (.inl rfl)), by decide⟩
  · exact ⟨3, .inr (.inr (.inl rfl)), by decide⟩
  · exact ⟨4, .inr (.inr (.inr rfl)), by decide⟩
  · exact ⟨4, .inr (.inr (.inr rfl)), by decide⟩
/-- Two conditions that stand alone each, a sign between them. -/
theorem RdS.both {d : Nat} {wa wb : List (Nat × List UInt8)} {sa sb : Sy} {w : Nat × List UInt8} (hw : w ∈ twoWs) (ha : RdS d 5 wa sa) (hha : Hd wa) (hb : RdS d 5 wb sb) (hhb : Hd wb) : RdS (d + 1) 6 (wa ++ w :: wb) ⟨w.1, w.2, [sa, sb]⟩ := by
  obtain ⟨n, hn, hj⟩ := two_level hw
  have h6 : n + 1 ≤ 6 := by unfold isChain at hn; omega
  exact (RdS.two hn hj (ha.out hha h6) (hb.out hhb h6)).from_ (hha.more _) hn
theorem RdS.nots {d : Nat} {ws : List (Nat × List UInt8)} {s : Sy} (h : RdS d 5 ws s) (hh : Hd ws) : RdS (d + 1) 6 ((107, wNot) :: ws) ⟨107, wNot, [s]⟩ :=
  (h.out hh (n := 2) (by omega)).not_.to1.to0.cond ⟨_, _, rfl, by decide⟩
/-- What is printed is read back. -/
theorem plain_rd (d : Nat) : ∀ {s : Sy}, ShS d s → RdS d 5 (wordsF d s) s ∧ Hd (wordsF d s) := by
  induction d with
  | zero => intro s h; exact h.elim
  | succ d ih =>
    intro s h
    obtain ⟨hs, hk⟩ := h
    obtain ⟨k, text, kids⟩ := s
    simp only [] at hs hk
    rw [wordsF]
    simp only []
    rcases hs with ⟨hn, hl⟩ | ⟨e1, e2, hl⟩ | ⟨e1, e2, hl⟩ | ⟨hw, hl⟩
    · subst hn
      rcases hl with ⟨e, hv⟩ | ⟨e, h1, h2, h3, h4⟩ | ⟨e, h1⟩
      · simp only [] at e; subst e
        rw [if_pos rfl]
        have ha : alone ⟨110, tensL (decVal text), 0⟩ = true := rfl
        exact ⟨RdS.one ha rfl ⟨rfl, by rw [if_pos rfl]; exact (tensL_ok hv).2.1⟩, hd_one ha⟩
      · simp only [] at e; subst e
        rw [if_neg (by decide)]
        have ha : alone ⟨111, text, 0⟩ = true := rfl
        exact ⟨RdS.one ha rfl ⟨rfl, by rw [if_neg (by show ¬ 111 = 110; decide)]⟩, hd_one ha⟩
      · simp only [] at e; subst e
        rw [if_neg (by decide)]
        have ha := (leaf_word _ h1).2.2.2
        exact ⟨RdS.one (w := (107, text)) ha rfl ⟨rfl, by rw [if_neg (by show ¬ 107 = 110; decide)]⟩, hd_one (w := (107, text)) ha⟩
    · subst e1 e2
      obtain ⟨a, rfl⟩ := one_len hl
      obtain ⟨ra, ha⟩ := ih (hk a (by simp))
      rw [if_neg (by decide)]
      exact ⟨(ra.nots ha).brackets, hd_brackets _⟩
    · subst e1 e2
      obtain ⟨a, b, c, rfl⟩ := three_len hl
      obtain ⟨ra, ha⟩ := ih (hk a (by simp))
      obtain ⟨rb, hb⟩ := ih (hk b (by simp))
      obtain ⟨rc, hc⟩ := ih (hk c (by simp))
      rw [if_neg (by decide)]
      exact ⟨(RdS.if_ (ra.out ha (Nat.le_refl 6)) (rb.out hb (Nat.le_refl 6)) (rc.out hc (Nat.le_refl 6))).brackets, hd_brackets _⟩
    · obtain ⟨a, b, rfl⟩ := two_len hl
      obtain ⟨ra, ha⟩ := ih (hk a (by simp))
      obtain ⟨rb, hb⟩ := ih (hk b (by simp))
      rw [if_neg (by rintro rfl; simp [twoWs] at hw)]
      exact ⟨(RdS.both hw ra ha rb hb).brackets, hd_brackets _⟩
end Go.Proofs.YtfkdailfcmnjlaaGreatDoor

namespace Go.Proofs.YtfkdailfcmnjlaaGreatDoor
set_option maxRecDepth 100000

/-- An item as it is meant: a let's name (nothing: a rule), does it allow, its condition. -/
structure SyI where
  name : List UInt8
  allow : Bool
  sy : Sy
def hW (s : SyI) : List (Nat × List UInt8) := if s.name = [] then [(107, if s.allow then wAllow else wDeny), (107, wIf)] else [(107, wLet), (111, s.name), (115, [61])]
def itemW (p : SyI × List (Nat × List UInt8)) : List (Nat × List UInt8) := hW p.1 ++ (p.2 ++ [(115, [59])])
/-- What reading an item leaves. -/
structure GotI (d i n : Nat) (L : List Pt) (s : SyI) (r : ItR) : Prop where
  ok : r.ok = true
  at_ : r.i = i + n
  new : ∃ new, r.L = L ++ new
  len : r.L.length = L.length + cS d s.sy
  name : r.it.name = s.name
  allow : r.it.allow = s.allow
  top : r.it.top + 1 = r.it.parts
  parts : r.it.parts = r.L.length
  is : IsSy d r.L r.it.top s.sy
theorem tail_got {d F i : Nat} {ts : List Tok} {L : List Pt} {s : SyI} {c : List (Nat × List UInt8)} {x : Itm} {r : ItR} (hc : RdS d 6 c s.sy) (hm : Mt ts i (c ++ [(115, [59])])) (hn : x.name = s.name) (ha : x.allow = s.allow) (h : itemTail F ts i L x = some r) : GotI d i (c.length + 1) L s r := by
  unfold itemTail at h
  cases hP : P F 6 ts i L 0 with
  | none => rw [hP] at h; cases h
  | some a =>
    rw [hP] at h
    simp only [] at h
    obtain ⟨h1, _⟩ := hm.right
    have g := hc ts i L 0 F a hm.left (noJ_sign (.inr (.inl h1))) hP
    rw [if_pos g.ok, if_pos (by rw [g.at_, isW_wd h1]; rfl)] at h
    simp at h
    subst h
    exact ⟨rfl, by show a.i + 1 = _; rw [g.at_]; omega, g.new, g.len, hn, ha, g.top, rfl, g.is⟩
theorem item_got {d F i : Nat} {ts : List Tok} {L : List Pt} {s : SyI} {c : List (Nat × List UInt8)} {r : ItR} (hc : RdS d 6 c s.sy) (ha : s.name ≠ [] → s.allow = false) (hm : Mt ts i (itemW (s, c))) (h : itemP F ts i L = some r) : GotI d i (itemW (s, c)).length L s r := by
  unfold itemW hW at *
  simp only [] at *
  unfold itemP at h
  by_cases hn : s.name = []
  · rw [if_pos hn] at hm ⊢
    obtain ⟨h1, h2, h3⟩ := hm
    have hl : isW (tokAt ts i) wLet = false := by rw [isW_wd h1]; cases s.allow <;> rfl
    have hal : (isW (tokAt ts i) wAllow || isW (tokAt ts i) wDeny) = true := by rw [isW_wd h1, isW_wd h1]; cases s.allow <;> rfl
    rw [hl, if_neg (by simp), if_pos hal, if_pos (by rw [isW_wd h2]; rfl)] at h
    have g := tail_got (s := s) hc h3 (by exact hn.symm) (by
      show ((tokAt ts i).text == wAllow) = s.allow
      have : (tokAt ts i).text = (if s.allow = true then wAllow else wDeny) := congrArg Prod.snd h1
      rw [this]; cases s.allow <;> rfl) h
    refine ⟨g.ok, ?_, g.new, g.len, g.name, g.allow, g.top, g.parts, g.is⟩
    rw [g.at_]; simp; omega
  · rw [if_neg hn] at hm ⊢
    obtain ⟨h1, h2, h3, h4⟩ := hm
    rw [if_pos (by rw [isW_wd h1]; rfl)] at h
    have hk : (tokAt ts (i + 1)).k = 111 := congrArg Prod.fst h2
    have ht : (tokAt ts (i + 1)).text = s.name := congrArg Prod.snd h2
    rw [if_pos hk, if_pos (by rw [isW_wd h3]; rfl)] at h
    have g := tail_got (s := s) hc h4 (by exact ht) (ha hn).symm h
    refine ⟨g.ok, ?_, g.new, g.len, g.name, g.allow, g.top, g.parts, g.is⟩
    rw [g.at_]; simp; omega
/-- The items that were read are those that were meant. -/
def PolIs (d : Nat) (L : List Pt) : List Itm → List SyI → Nat → Prop
  | [], [], fr => L.length = fr
  | x :: r, s :: q, fr => x.name = s.name ∧ x.allow = s.allow ∧ IsSy d L x.top s.sy ∧ x.top + 1 = x.parts ∧ x.parts = fr + cS d s.sy ∧ PolIs d L r q x.parts
  | _, _, _ => False
def polW (pol : List (SyI × List (Nat × List UInt8))) : List (Nat × List UInt8) := pol.flatMap itemW
theorem parse_got {d F : Nat} {ts : List Tok} (pol : List (SyI × List (Nat × List UInt8))) : ∀ (g i : Nat) (L : List Pt) (xs : List Itm) (R : AllR), (∀ p ∈ pol, RdS d 6 p.2 p.1.sy ∧ (p.1.name ≠ [] → p.1.allow = false)) → Mt ts i (polW pol) → (tokAt ts (i + (polW pol).length)).k = 101 → parseAll F ts g i L xs = some R →
    R.ok = true ∧ ∃ new xs', R.L = L ++ new ∧ R.xs = xs ++ xs' ∧ PolIs d R.L xs' (pol.map Prod.fst) L.length := by
  induction pol with
  | nil =>
    intro g i L xs R _ _ hk h
    have := parse_end h hk
    subst this
    exact ⟨rfl, [], [], by simp, by simp, rfl⟩
  | cons p pol ih =>
    intro g i L xs R hp hm hk h
    obtain ⟨s, c⟩ := p
    have e : polW ((s, c) :: pol) = itemW (s, c) ++ polW pol := by simp [polW]
    rw [e] at hm hk
    have h101 : ¬ (tokAt ts i).k = 101 := by
      have hm1 := hm.left
      unfold itemW hW at hm1
      by_cases hn : s.name = []
      · simp only [if_pos hn] at hm1
        have : (tokAt ts i).k = 107 := congrArg Prod.fst hm1.1
        omega
      · simp only [if_neg hn] at hm1
        have : (tokAt ts i).k = 107 := congrArg Prod.fst hm1.1
        omega
    obtain ⟨r, g', hr, hR⟩ := parse_step h h101
    obtain ⟨hp1, hp2⟩ := hp (s, c) (by simp)
    have q := item_got hp1 hp2 hm.left hr
    rcases hR with ⟨_, hR⟩ | ⟨e', _⟩
    · rw [q.at_] at hR
      have hk' : (tokAt ts (i + (itemW (s, c)).length + (polW pol).length)).k = 101 := by
        rw [List.length_append] at hk
        rw [Nat.add_assoc]; exact hk
      obtain ⟨ok, new, xs', h1, h2, h3⟩ := ih g' _ r.L (xs ++ [r.it]) R (fun p hp' => hp p (by simp [hp'])) hm.right hk' hR
      obtain ⟨n1, hn1⟩ := q.new
      refine ⟨ok, n1 ++ new, r.it :: xs', by rw [h1, hn1]; simp, by rw [h2]; simp, ?_⟩
      refine ⟨q.name, q.allow, by rw [h1]; exact q.is.more _, q.top, by rw [q.parts, q.len], ?_⟩
      rw [q.parts]; exact h3
    · rw [q.ok] at e'; cases e'
/-- The words of a text, where it is cut. -/
theorem mt_map {ts : List Tok} {ws : List (Nat × List UInt8)} (h : ts.map wd = ws ++ [(101, [])]) : Mt ts 0 ws ∧ (tokAt ts (0 + ws.length)).k = 101 := by
  have key : ∀ (ws : List (Nat × List UInt8)) (pre ts : List Tok), ts.map wd = ws ++ [(101, [])] → Mt (pre ++ ts) pre.length ws ∧ (tokAt (pre ++ ts) (pre.length + ws.length)).k = 101 := by
    intro ws
    induction ws with
    | nil =>
      intro pre ts h
      obtain ⟨t, rfl⟩ : ∃ t, ts = [t] := by
        have : ts.length = 1 := by have := congrArg List.length h; simpa using this
        exact List.length_eq_one_iff.1 this
      simp at h
      refine ⟨trivial, ?_⟩
      unfold tokAt
      simp [List.getD_eq_getElem?_getD]
      exact congrArg Prod.fst h
    | cons w ws ih =>
      intro pre ts h
      cases ts with
      | nil => simp at h
      | cons t ts =>
        simp at h
        have := ih (pre ++ [t]) ts h.2
        simp at this
        refine ⟨⟨?_, this.1⟩, ?_⟩
        · unfold tokAt; simp [List.getD_eq_getElem?_getD]; exact h.1
        · rw [show pre.length + (w :: ws).length = pre.length + 1 + ws.length from by simp; omega]; exact this.2
  exact key ws [] ts h
end Go.Proofs.YtfkdailfcmnjlaaGreatDoor
