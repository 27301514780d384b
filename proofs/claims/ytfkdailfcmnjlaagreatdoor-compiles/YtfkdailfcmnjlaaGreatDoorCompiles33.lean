/-
  A text that has the words of a policy is read as that policy; a text that was read is one of these; its plain form is read back. A policy that was read, as items over trees: their types, their numbers, what they say.
-/
import Derived.Test.YtfkdailfcmnjlaaGreatDoorCompiles01
import Derived.Test.YtfkdailfcmnjlaaGreatDoorCompiles02
import Derived.Test.YtfkdailfcmnjlaaGreatDoorCompiles03
import Derived.Test.YtfkdailfcmnjlaaGreatDoorCompiles04
import Derived.Test.YtfkdailfcmnjlaaGreatDoorCompiles05
import Derived.Test.YtfkdailfcmnjlaaGreatDoorCompiles06
import Derived.Test.YtfkdailfcmnjlaaGreatDoorCompiles07
import Derived.Test.YtfkdailfcmnjlaaGreatDoorCompiles08
import Derived.Test.YtfkdailfcmnjlaaGreatDoorCompiles09
import Derived.Test.YtfkdailfcmnjlaaGreatDoorCompiles10
import Derived.Test.YtfkdailfcmnjlaaGreatDoorCompiles11
import Derived.Test.YtfkdailfcmnjlaaGreatDoorCompiles12
import Derived.Test.YtfkdailfcmnjlaaGreatDoorCompiles13
import Derived.Test.YtfkdailfcmnjlaaGreatDoorCompiles14
import Derived.Test.YtfkdailfcmnjlaaGreatDoorCompiles15
import Derived.Test.YtfkdailfcmnjlaaGreatDoorCompiles16
import Derived.Test.YtfkdailfcmnjlaaGreatDoorCompiles17
import Derived.Test.YtfkdailfcmnjlaaGreatDoorCompiles18
import Derived.Test.YtfkdailfcmnjlaaGreatDoorCompiles19
import Derived.Test.YtfkdailfcmnjlaaGreatDoorCompiles20
import Derived.Test.YtfkdailfcmnjlaaGreatDoorCompiles21
import Derived.Test.YtfkdailfcmnjlaaGreatDoorCompiles22
import Derived.Test.YtfkdailfcmnjlaaGreatDoorCompiles23
import Derived.Test.YtfkdailfcmnjlaaGreatDoorCompiles24
import Derived.Test.YtfkdailfcmnjlaaGreatDoorCompiles25
import Derived.Test.YtfkdailfcmnjlaaGreatDoorCompiles26
import Derived.Test.YtfkdailfcmnjlaaGreatDoorCompiles27
import Derived.Test.YtfkdailfcmnjlaaGreatDoorCompiles28
import Derived.Test.YtfkdailfcmnjlaaGreatDoorCompiles29
import Derived.Test.YtfkdailfcmnjlaaGreatDoorCompiles30
import Derived.Test.YtfkdailfcmnjlaaGreatDoorCompiles31
import Derived.Test.YtfkdailfcmnjlaaGreatDoorCompiles32
import Derived.Test.YtfkdailfcmnjlaaGreatDoorLays
import Derived.Test.YtfkdailfcmnjlaaGreatDoorLays2
import Derived.WalkKit
import Derived.Deep.QuietTactic
import Derived.BigQuiet
import Derived.WalkSpells
import GoSem.Op.String
import Derived.Deep.AppendLies
import Derived.Deep.RegionHeld3
import Derived.Deep.DrawnRows
import Derived.Deep.RegionHeldLaw
import Derived.Deep.RegionLaw
import Derived.Lib.ParseIntBCases
import Derived.Deep.OwnRows
import Derived.Lib.LaidTab
import Derived.Lib.AppendIntMem
import Derived.Shelf.Strings.Builder1
set_option linter.unusedVariables false
set_option linter.unusedSimpArgs false
namespace Go.Proofs.YtfkdailfcmnjlaaGreatDoor
open Go Go.RowKit
set_option maxRecDepth 100000

/-- What is known of a text that has a policy's words. -/
theorem read_pol {d : Nat} {l : List UInt8} {pol : List (SyI × List (Nat × List UInt8))} (hl : l.length ≤ 1000) (hx : LX l (polW pol)) (hp : ∀ p ∈ pol, RdS d 6 p.2 p.1.sy ∧ (p.1.name ≠ [] → p.1.allow = false)) :
    TreesAt (readOf l).2.1 (readOf l).2.2 0 ∧ PolIs d (readOf l).2.1 (readOf l).2.2 (pol.map Prod.fst) 0 ∧ (OkS d (pol.map Prod.fst) → (readOf l).1 = (0, 0)) := by
  obtain ⟨ts, h1, h2⟩ := lex_lx l (l.length + 1) 0 _ (hx _ (by simp))
  unfold readOf
  rw [if_neg (by omega), h1]
  simp only []
  obtain ⟨r1, r2, r3, r4, r5⟩ := lex_ok l (by omega) (l.length + 1) 0 _ (Nat.zero_le _) (by omega) h1
  obtain ⟨hwo, hwl⟩ := lex_words l (l.length + 1) 0 _ (Nat.zero_le _) (by omega) h1
  obtain ⟨R, hR⟩ := parse_total (F := 16 * ts.length + 8) (Nat.le_refl _) r4 (ts.length + 1) 0 [] [] (by omega)
  have e : allOf ts = R := by unfold allOf; rw [hR]; rfl
  rw [e]
  obtain ⟨m1, m2⟩ := mt_map h2
  obtain ⟨ok, new, xs', q1, q2, q3⟩ := parse_got pol _ 0 [] [] R hp m1 m2 hR
  obtain ⟨k1, k2, k3⟩ := all_known hwo (by omega) hR ok
  rw [List.nil_append] at q2
  subst q2
  exact ⟨k1, q3, fun h => (verdict_same ok k2 k1 q3).1.2 h⟩

/-- The tree of a part. -/
def syOf (L : List Pt) : Nat → Nat → Sy
  | 0, _ => noSy
  | f + 1, i => ⟨(L.getD i noPt).tok.k, (L.getD i noPt).tok.text, (L.getD i noPt).subs.map (syOf L f)⟩
/-- The words there are. -/
def TokG (t : Tok) : Prop := TokW t ∧ (t.k = 110 → decVal t.text ≤ 9223372036854775807) ∧ (t.k = 111 → t.text ≠ [] ∧ (∀ c ∈ t.text, isL c = true) ∧ isKw t.text = false ∧ t.text.length ≤ 8)
theorem kw_leaf : ∀ x ∈ spell.drop 11, alone ⟨107, x, 0⟩ = true → x ∈ leafWs := by decide
theorem kw_two : ∀ x ∈ spell.drop 11, ∀ n ∈ [0, 1, 3, 4], joins n ⟨107, x, 0⟩ = true → (107, x) ∈ twoWs := by decide
theorem sg_two : ∀ x ∈ (spell.drop 3).take 8, ∀ n ∈ [0, 1, 3, 4], joins n ⟨115, x, 0⟩ = true → (115, x) ∈ twoWs := by decide
theorem sg_not : ∀ x ∈ (spell.drop 3).take 8, x ≠ wNot ∧ x ≠ wIf := by decide
theorem alone_pl (t : Tok) : alone t = alone ⟨t.k, t.text, 0⟩ := rfl
theorem joins_pl (n : Nat) (t : Tok) : joins n t = joins n ⟨t.k, t.text, 0⟩ := rfl
theorem word_107 {t : Tok} {x : List UInt8} (hW : TokW t) (h : isW t x = true) (hx : x = wNot ∨ x = wIf) : t.k = 107 ∧ t.text = x := by
  unfold isW at h
  simp only [Bool.and_eq_true, Bool.or_eq_true, beq_iff_eq] at h
  obtain ⟨hk, ht⟩ := h
  refine ⟨?_, ht⟩
  rcases hW with h | h | h | ⟨h, _⟩ | ⟨h, hm⟩
  · omega
  · omega
  · omega
  · exact h
  · exfalso
    have := sg_not _ hm
    rw [ht] at this
    rcases hx with rfl | rfl
    · exact this.1 rfl
    · exact this.2 rfl
theorem tree_sy {L : List Pt} (hG : ∀ k, k < L.length → TokG (L.getD k noPt).tok) (f : Nat) : ∀ {lo i : Nat}, TreeF f L lo i → IsSy f L i (syOf L f i) ∧ ShS f (syOf L f i) ∧ cS f (syOf L f i) = i + 1 - lo := by
  have hcnt : ∀ (f : Nat) {lo i : Nat}, TreeF f L lo i → cS f (syOf L f i) = cnt f L i := by
    intro f
    induction f with
    | zero => intro lo i h; exact h.elim
    | succ f ih =>
      intro lo i h
      have hsub := forest_mem _ h.2.2
      rw [syOf, cS, cnt]
      have : ∀ js : List Nat, (∀ j ∈ js, cS f (syOf L f j) = cnt f L j) → ((js.map (syOf L f)).map (cS f)).sum = sumOf (cnt f L) js := by
        intro js
        induction js with
        | nil => intro _; rfl
        | cons j js ihj =>
          intro hj
          have := ihj fun q hq => hj q (by simp [hq])
          simp only [List.map_cons, List.sum_cons, sumOf]
          rw [hj j (by simp), this]
      simp only []
      rw [this _ fun j hj => ?_]
      obtain ⟨lo', hT⟩ := hsub j hj
      exact ih hT
  have key : ∀ (f : Nat) {lo i : Nat}, TreeF f L lo i → IsSy f L i (syOf L f i) ∧ ShS f (syOf L f i) := by
    intro f
    induction f with
    | zero => intro lo i h; exact h.elim
    | succ f ih =>
      intro lo i h
      have hsub := forest_mem _ h.2.2
      obtain ⟨hw, hn, ho⟩ := hG i h.1
      rw [syOf]
      refine ⟨⟨h.1, ⟨rfl, by split <;> rfl⟩, by simp, fun j hj => ?_⟩, ?_, fun c hc => ?_⟩
      · have hj' : j < (L.getD i noPt).subs.length := by simpa using hj
        have e : ((L.getD i noPt).subs.map (syOf L f)).getD j noSy = syOf L f ((L.getD i noPt).subs.getD j 0) := by
          generalize (L.getD i noPt).subs = q at *
          simp [List.getD_eq_getElem?_getD, List.getElem?_map, List.getElem?_eq_getElem hj']
        show IsSy f L _ (((L.getD i noPt).subs.map (syOf L f)).getD j noSy)
        rw [e]
        obtain ⟨lo', hT⟩ := hsub ((L.getD i noPt).subs.getD j 0) (by
          generalize (L.getD i noPt).subs = q at *
          rw [List.getD_eq_getElem?_getD, List.getElem?_eq_getElem hj']
          exact List.getElem_mem _)
        exact (ih hT).1
      · show (_ ∨ _ ∨ _ ∨ _)
        rcases h.2.1 with ⟨ha, hs⟩ | ⟨hx, hl⟩ | ⟨hx, hl⟩ | ⟨n, hc, hj, hl⟩
        · left
          refine ⟨by rw [hs]; rfl, ?_⟩
          by_cases h1 : (L.getD i noPt).tok.k = 110
          · exact .inl ⟨h1, hn h1⟩
          by_cases h2 : (L.getD i noPt).tok.k = 111
          · exact .inr (.inl ⟨h2, ho h2⟩)
          · right; right
            rw [alone_pl] at ha
            rcases hw with h | h | h | ⟨h, hm⟩ | ⟨h, hm⟩
            · exact absurd h h1
            · exact absurd h h2
            · rw [h] at ha; simp [alone] at ha
            · rw [h] at ha; exact ⟨h, kw_leaf _ hm ha⟩
            · rw [h] at ha; simp [alone] at ha
        · obtain ⟨e1, e2⟩ := word_107 hw hx (.inl rfl)
          exact .inr (.inl ⟨e1, e2, by simpa using hl⟩)
        · obtain ⟨e1, e2⟩ := word_107 hw hx (.inr rfl)
          exact .inr (.inr (.inl ⟨e1, e2, by simpa using hl⟩))
        · right; right; right
          refine ⟨?_, by simpa using hl⟩
          have hcn : n ∈ [0, 1, 3, 4] := by unfold isChain at hc; simp; omega
          rw [joins_pl] at hj
          rcases hw with h | h | h | ⟨h, hm⟩ | ⟨h, hm⟩
          · rw [h] at hj; simp [joins] at hj
          · rw [h] at hj; simp [joins] at hj
          · rw [h] at hj; simp [joins] at hj
          · rw [h] at hj ⊢; exact kw_two _ hm n hcn hj
          · rw [h] at hj ⊢; exact sg_two _ hm n hcn hj
      · obtain ⟨j, hj, rfl⟩ := List.mem_map.1 hc
        obtain ⟨lo', hT⟩ := hsub j hj
        exact (ih hT).2
  intro lo i h
  exact ⟨(key f h).1, (key f h).2, by rw [hcnt f h]; exact h.cnt⟩
/-- The own names that the cutter of words gives. -/
theorem lex_own (l : List UInt8) (f : Nat) : ∀ (a : Nat) (ts : List Tok), lex f l a = (ts, none) → ∀ t ∈ ts, t.k = 111 → t.text ≠ [] ∧ (∀ c ∈ t.text, isL c = true) ∧ isKw t.text = false ∧ t.text.length ≤ 8 := by
  induction f with
  | zero => intro a ts h; simp [lex] at h; subst h; simp
  | succ f ih =>
    intro a ts h
    rw [lex] at h
    split at h
    · simp at h; subst h; simp
    · rw [wordAt_drop] at h
      cases hw : wordS (l.drop (stop isB l a)) with
      | none => rw [hw] at h; simp at h
      | some w =>
        rw [hw] at h
        simp only [Option.map_some] at h
        simp only [Prod.mk.injEq] at h
        obtain ⟨rfl, h2⟩ := h
        have ih' := ih _ _ (Prod.ext rfl h2)
        intro t ht hk
        rcases List.mem_cons.1 ht with rfl | ht
        · generalize l.drop (stop isB l a) = s at hw
          unfold wordS at hw
          simp only [] at hk ⊢
          split at hw
          · split at hw
            · cases hw
            · simp at hw; rw [← hw] at hk; simp at hk
          · split at hw
            · rename_i hne
              split at hw
              · simp at hw; rw [← hw] at hk; simp at hk
              · rename_i hkw
                split at hw
                · rename_i hlen
                  simp at hw; subst hw
                  refine ⟨hne, fun c hc => ?_, by simpa using hkw, hlen⟩
                  have := List.all_takeWhile (l := s) (p := isL)
                  exact List.all_eq_true.1 this c hc
                · cases hw
            · split at hw
              · cases hw
              · split at hw
                · split at hw
                  · simp at hw; rw [← hw] at hk; simp at hk
                  · simp at hw; rw [← hw] at hk; simp at hk
                · split at hw
                  · simp at hw; rw [← hw] at hk; simp at hk
                  · cases hw
        · exact ih' t ht hk
theorem tail_it {F : Nat} {ts : List Tok} {i : Nat} {L : List Pt} {x : Itm} {r : ItR} (h : itemTail F ts i L x = some r) (ok : r.ok = true) : r.it.name = x.name ∧ r.it.allow = x.allow := by
  unfold itemTail at h
  split at h
  · cases h
  · split at h
    · split at h
      · simp at h; subst h; exact ⟨rfl, rfl⟩
      · simp [itFail] at h; subst h; simp at ok
    · simp [itFail] at h; subst h; simp at ok
theorem item_own {F : Nat} {ts : List Tok} {i : Nat} {L : List Pt} {r : ItR} (h : itemP F ts i L = some r) (ok : r.ok = true) : r.it.name = [] ∨ ((∃ t ∈ ts, t.k = 111 ∧ r.it.name = t.text) ∧ r.it.allow = false) := by
  unfold itemP at h
  split at h
  · split at h
    · rename_i hk
      split at h
      · obtain ⟨h1, h2⟩ := tail_it h ok
        have hm := (inside (ts := ts) (i := i + 1) fun e => by rw [e] at hk; exact absurd hk (by decide)).2
        exact .inr ⟨⟨_, hm, hk, h1⟩, h2⟩
      · simp [itFail] at h; subst h; simp at ok
    · simp [itFail] at h; subst h; simp at ok
  · split at h
    · split at h
      · exact .inl (tail_it h ok).1
      · simp [itFail] at h; subst h; simp at ok
    · simp [itFail] at h; subst h; simp at ok
theorem parse_own {F : Nat} {ts : List Tok} (g : Nat) : ∀ (i : Nat) (L : List Pt) (xs : List Itm) (R : AllR), (∀ x ∈ xs, x.name = [] ∨ ((∃ t ∈ ts, t.k = 111 ∧ x.name = t.text) ∧ x.allow = false)) → parseAll F ts g i L xs = some R → R.ok = true → ∀ x ∈ R.xs, x.name = [] ∨ ((∃ t ∈ ts, t.k = 111 ∧ x.name = t.text) ∧ x.allow = false) := by
  induction g with
  | zero => intro i L xs R _ h; rw [parseAll] at h; simp at h
  | succ g ih =>
    intro i L xs R hT h ok
    by_cases hk : (tokAt ts i).k = 101
    · have := parse_end h hk; subst this; exact hT
    · rw [parseAll, if_neg hk] at h
      cases hr : itemP F ts i L with
      | none => rw [hr] at h; simp at h
      | some r =>
        rw [hr] at h
        simp only at h
        by_cases okr : r.ok = true
        · rw [if_pos okr] at h
          refine ih r.i r.L (xs ++ [r.it]) R (fun x hx => ?_) h ok
          rcases List.mem_append.1 hx with hx | hx
          · exact hT x hx
          · rw [List.mem_singleton] at hx; subst hx; exact item_own hr okr
        · rw [if_neg okr] at h; simp at h; subst h; simp at ok
theorem pol_of {L : List Pt} {d : Nat} (hG : ∀ k, k < L.length → TokG (L.getD k noPt).tok) (hd : L.length ≤ d) {xs : List Itm} : ∀ {fr : Nat}, TreesAt L xs fr → PolIs d L xs (xs.map fun x => ⟨x.name, x.allow, syOf L d x.top⟩) fr ∧ ∀ x ∈ xs, ShS d (syOf L d x.top) := by
  induction xs with
  | nil => intro fr h; exact ⟨h.symm, by simp⟩
  | cons x xs ih =>
    intro fr h
    have hT := h.1.fit
    have hT' := hT.upto (g := d) (by have := hT.lt; omega)
    obtain ⟨h1, h2, h3⟩ := tree_sy hG d hT'
    obtain ⟨i1, i2⟩ := ih h.2.2
    refine ⟨⟨rfl, rfl, h1, h.2.1, by have := hT.le; rw [h3, ← h.2.1]; omega, i1⟩, fun y hy => ?_⟩
    rcases List.mem_cons.1 hy with rfl | hy
    · exact h2
    · exact i2 y hy
/-- A text that was read is a policy that was meant. -/
theorem known_pol (l : List UInt8) (h0 : (readOf l).1.1 = 0) : ∃ (d : Nat) (pol : List SyI), TreesAt (readOf l).2.1 (readOf l).2.2 0 ∧ PolIs d (readOf l).2.1 (readOf l).2.2 pol 0 ∧ OkS d pol ∧ ∀ s ∈ pol, ShS d s.sy ∧ NameOK s := by
  unfold readOf at *
  by_cases h1 : 1000 < l.length
  · rw [if_pos h1] at h0; simp at h0
  · rw [if_neg h1] at h0 ⊢
    cases hx : (lex (l.length + 1) l 0).2 with
    | some p => rw [hx] at h0; simp at h0
    | none =>
      rw [hx] at h0
      simp only [] at h0 ⊢
      have hlex : lex (l.length + 1) l 0 = ((lex (l.length + 1) l 0).1, none) := by rw [← hx]
      obtain ⟨r1, r2, r3, r4, r5⟩ := lex_ok l (by omega) (l.length + 1) 0 _ (Nat.zero_le _) (by omega) hlex
      obtain ⟨hwo, hwl⟩ := lex_words l (l.length + 1) 0 _ (Nat.zero_le _) (by omega) hlex
      have hown := lex_own l _ 0 _ hlex
      generalize (lex (l.length + 1) l 0).1 = ts at *
      obtain ⟨R, hR⟩ := parse_total (F := 16 * ts.length + 8) (Nat.le_refl _) r4 (ts.length + 1) 0 [] [] (by omega)
      have e : allOf ts = R := by unfold allOf; rw [hR]; rfl
      rw [e] at h0 ⊢
      have ok : R.ok = true := by
        cases hk : R.ok with
        | true => rfl
        | false => unfold verdictOf at h0; rw [if_pos hk] at h0; simp at h0
      obtain ⟨k1, k2, k3⟩ := all_known hwo (by omega) hR ok
      obtain ⟨_, k4, _, _⟩ := parse_trees hwo.sorted _ 0 [] [] R rfl ⟨by simp, by simp, by simp⟩ (by simp) (by omega) hR ok
      have k5 := parse_own _ 0 [] [] R (by simp) hR ok
      have hG : ∀ k, k < R.L.length → TokG (R.L.getD k noPt).tok := fun k hk => ⟨k3 k hk, fun hn => ((r3 _ (k4.2.2 k hk)).2 hn).2, fun ho => hown _ (k4.2.2 k hk) ho⟩
      obtain ⟨q1, q2⟩ := pol_of (d := R.L.length) hG (Nat.le_refl _) k1
      refine ⟨R.L.length, _, k1, q1, (verdict_same ok k2 k1 q1).2 h0, fun s hs => ?_⟩
      obtain ⟨x, hx, rfl⟩ := List.mem_map.1 hs
      refine ⟨q2 x hx, ?_⟩
      rcases k5 x hx with h | ⟨⟨t, ht, hk, h⟩, ha⟩
      · exact .inl h
      · obtain ⟨o1, o2, o3, o4⟩ := hown t ht hk
        exact .inr ⟨by rw [h]; exact o2, by rw [h]; exact o3, by rw [h]; exact o4, ha⟩
/-- What a policy that was meant gives when its text is read. -/
theorem text_pol {d : Nat} {l : List UInt8} {pol : List (SyI × List (Nat × List UInt8))} (hl : l.length ≤ 1000) (hx : LX l (polW pol)) (hp : ∀ p ∈ pol, RdS d 6 p.2 p.1.sy ∧ (p.1.name ≠ [] → p.1.allow = false)) (ok : OkS d (pol.map Prod.fst)) : (readOf l).1 = (0, 0) ∧ textOf l = printS d (pol.map Prod.fst) := by
  obtain ⟨h1, h2, h3⟩ := read_pol hl hx hp
  have h4 := h3 ok
  refine ⟨h4, ?_⟩
  unfold textOf
  rw [if_pos (by rw [h4]), print_same h1 h2]
/-- The words of a plain form are those of the policy. -/
theorem printed_rd {d : Nat} {pol : List SyI} (h : ∀ s ∈ pol, ShS d s.sy ∧ NameOK s) : ∀ p ∈ pol.map (fun s => (s, wordsF d s.sy)), RdS d 6 p.2 p.1.sy ∧ (p.1.name ≠ [] → p.1.allow = false) := by
  intro p hp
  obtain ⟨s, hs, rfl⟩ := List.mem_map.1 hp
  obtain ⟨h1, h2⟩ := h s hs
  obtain ⟨r1, r2⟩ := plain_rd d h1
  refine ⟨r1.out r2 (Nat.le_refl 6), fun hn => ?_⟩
  rcases h2 with h | ⟨_, _, _, h⟩
  · exact absurd h hn
  · exact h
theorem fst_map {pol : List SyI} (W : Sy → List (Nat × List UInt8)) : (pol.map fun s => (s, W s.sy)).map Prod.fst = pol := by
  rw [List.map_map]; exact List.map_id pol
/-- A plain form is its own. -/
theorem text_again (l : List UInt8) (h0 : (readOf l).1.1 = 0) (hl : (textOf l).length ≤ 1000) : (readOf (textOf l)).1 = (0, 0) ∧ textOf (textOf l) = textOf l := by
  obtain ⟨d, pol, h1, h2, h3, h4⟩ := known_pol l h0
  have e : textOf l = printS d pol := by unfold textOf; rw [if_pos h0, print_same h1 h2]
  rw [e] at hl ⊢
  have := text_pol (d := d) hl (print_lex pol h4) (printed_rd h4) (by rw [fst_map]; exact h3)
  rw [fst_map] at this
  exact this
end Go.Proofs.YtfkdailfcmnjlaaGreatDoor

namespace Go.Proofs.YtfkdailfcmnjlaaGreatDoor
open Go Go.RowKit
set_option maxRecDepth 100000

/-- The items of a policy that was read, over trees; from a let's and a rule's number on. -/
def itsT (ix : List UInt8 → Int) (L : List Pt) : Nat → Nat → List Itm → List ItT
  | _, _, [] => []
  | l, r, x :: xs => if x.name = [] then ⟨if x.allow then 12 else 13, r + 1, toTr ix L (x.top + 1) x.top⟩ :: itsT ix L l (r + 1) xs else ⟨11, l, toTr ix L (x.top + 1) x.top⟩ :: itsT ix L (l + 1) r xs
theorem foldMax_mem (F : Nat → Nat) : ∀ (l : List Nat) (m j : Nat), j ∈ l → F j ≤ l.foldl (fun m j => max m (F j)) m ∧ m ≤ l.foldl (fun m j => max m (F j)) m := by
  intro l
  induction l with
  | nil => intro m j h; simp at h
  | cons x r ih =>
    intro m j h
    have hm : ∀ (r : List Nat) (m : Nat), m ≤ r.foldl (fun m j => max m (F j)) m := fun r => by
      induction r with
      | nil => intro m; exact Nat.le_refl _
      | cons y r ih => intro m; exact Nat.le_trans (Nat.le_max_left _ _) (ih _)
    have h1 := hm r (max m (F x))
    simp only [List.foldl_cons]
    rcases List.mem_cons.1 h with rfl | h
    · omega
    · have := (ih (max m (F x)) j h).1
      omega
theorem wf_dep {ix : List UInt8 → Int} {L : List Pt} (f : Nat) : ∀ {i g : Nat}, WfT f (toTr ix L f i) → dep f L i ≤ g → WfT g (toTr ix L f i) := by
  induction f with
  | zero => intro i g h; exact h.elim
  | succ f ih =>
    intro i g h hd
    rw [dep] at hd
    obtain ⟨g, rfl⟩ : ∃ q, g = q + 1 := ⟨g - 1, by omega⟩
    refine ⟨h.1, fun c hc => ?_⟩
    have hw := h.2 c hc
    have hc' : c ∈ (L.getD i noPt).subs.map (toTr ix L f) := hc
    obtain ⟨j, hj, rfl⟩ := List.mem_map.1 hc'
    refine ih hw ?_
    have := (foldMax_mem (dep f L) _ 0 j hj).1
    unfold foldMax at hd
    omega
theorem ty_any {lt : List Nat} {t : Tr} {f g : Nat} (h1 : WfT f t) (h2 : WfT g t) : tyTr lt f t = tyTr lt g t := (tyTr_up h1 (Nat.le_max_left f g)).symm.trans (tyTr_up h2 (Nat.le_max_right f g))
theorem ev_any {lv fl : List Int} {t : Tr} {f g : Nat} (h1 : WfT f t) (h2 : WfT g t) : evT lv fl f t = evT lv fl g t := (evT_up h1 (Nat.le_max_left f g)).symm.trans (evT_up h2 (Nat.le_max_right f g))
theorem cnt_any {t : Tr} {f g : Nat} (h1 : WfT f t) (h2 : WfT g t) : cntT f t = cntT g t := (cntT_up h1 (Nat.le_max_left f g)).symm.trans (cntT_up h2 (Nat.le_max_right f g))
theorem forest_sum {T : Nat → Nat → Prop} {g : Nat → Nat} (hT : ∀ lo j, T lo j → lo ≤ j ∧ g j = j + 1 - lo) : ∀ {js : List Nat} {lo hi : Nat}, Forest T lo js hi → lo ≤ hi ∧ (js.map g).sum = hi - lo
  | [], lo, hi, h => by
    have h : lo = hi := h
    subst h; simp
  | j :: js, lo, hi, h => by
    obtain ⟨h1, h2⟩ := hT lo j h.1
    obtain ⟨h3, h4⟩ := forest_sum hT h.2
    rw [List.map_cons, List.sum_cons, h2, h4]
    omega
theorem cnt_tree {ix : List UInt8 → Int} {L : List Pt} (f : Nat) : ∀ {lo i : Nat}, TreeF f L lo i → lo ≤ i ∧ cntT f (toTr ix L f i) = i + 1 - lo := by
  induction f with
  | zero => intro lo i h; exact h.elim
  | succ f ih =>
    intro lo i h
    obtain ⟨h1, h2⟩ := forest_sum (g := fun j => cntT f (toTr ix L f j)) (fun lo j h => ih h) h.2.2
    refine ⟨h1, ?_⟩
    have e : cntT (f + 1) (toTr ix L (f + 1) i) = 1 + (((L.getD i noPt).subs.map (toTr ix L f)).map (cntT f)).sum := rfl
    rw [e, List.map_map]
    have e2 : (cntT f ∘ toTr ix L f) = fun j => cntT f (toTr ix L f j) := rfl
    rw [e2, h2]
    omega
theorem grow_alike {α : Type} {a b : List α} {z v : α} (h : ∀ i, a.getD i z = b.getD i z) (hl : b.length < a.length) : ∀ i, (a.set b.length v).getD i z = (b ++ [v]).getD i z := fun i => by
  by_cases e : b.length = i
  · subst e
    rw [getD_set_eq hl, List.getD_eq_getElem?_getD, List.getElem?_append_right (Nat.le_refl _)]; simp
  · rw [getD_set_ne e, h i]
    by_cases g : i < b.length
    · rw [List.getD_eq_getElem?_getD, List.getD_eq_getElem?_getD, List.getElem?_append_left g]
    · rw [List.getD_eq_getElem?_getD, List.getD_eq_getElem?_getD, List.getElem?_eq_none (by omega), List.getElem?_eq_none (by simp; omega)]
theorem take_next {α : Type} {l : List α} {j : Nat} (h : j < l.length) (d : α) : l.take (j + 1) = l.take j ++ [l.getD j d] := by
  rw [List.take_add_one, List.getD_eq_getElem?_getD, List.getElem?_eq_getElem h]; rfl
/-- What is known of the items of a policy, from one on. -/
structure ItsOK (xs : List Itm) (L : List Pt) (fl : List Int) (j l r fr : Nat) (lt : List Nat) (env vals : List Int) (its : List ItT) : Prop where
  ty : TyI 24 lt its
  seq : SeqI l its
  mean : meanT 24 fl env its = (meanL xs fl L (xs.drop j) vals r).getD (false, 0)
  cnt : cntI 24 its = L.length - fr
  fr : fr ≤ L.length
  len : its.length + j = xs.length
  many : j < xs.length → xs.length ≤ 30 ∧ L.length ≤ 200
theorem its_ok {xs : List Itm} {L : List Pt} {fl : List Int} (hL : PartsOK L) (hP : PlainOK L) (hF : FieldsOK fl) : ∀ (m j l r fr : Nat) (tys : List UInt8) (vals env : List Int) (lt : List Nat), xs.length - j = m → j ≤ xs.length → ValsOK tys vals → tys.length = j → TreesAt L (xs.drop j) fr → namesAt xs L (xs.drop j) fr j = none → typesAt xs L (xs.drop j) tys = none → (∀ c ∈ tys, isTy c) → manyAt L (xs.drop j) l j = none → (letTys (xs.take j) tys).length = l → r + l = j → l ≤ 10 → r ≤ 20 → fr ≤ 200 → lt.length = 10 → env.length = 10 → (∀ i, lt.getD i 0 = (letTys (xs.take j) tys).getD i 0) → (∀ i, env.getD i 0 = (letVals (xs.take j) vals).getD i 0) →
    ItsOK xs L fl j l r fr lt env vals (itsT (idx (giv xs)) L l r (xs.drop j)) := by
  intro m
  induction m with
  | zero =>
    intro j l r fr tys vals env lt hm hj hV hl hT hN hY hI hM hll hrl h10 h20 h200 h1 h2 h3 h4
    have e : xs.drop j = [] := List.drop_of_length_le (by omega)
    rw [e] at hT ⊢
    have hT : fr = L.length := hT
    refine ⟨trivial, trivial, ?_, ?_, by omega, ?_, by omega⟩
    · rw [e]; rfl
    · rw [hT]; simp [itsT, cntI]
    · show 0 + j = _; omega
  | succ m ih =>
    intro j l r fr tys vals env lt hm hj hV hl hT hN hY hI hM hll hrl h10 h20 h200 h1 h2 h3 h4
    have hjl : j < xs.length := by omega
    have hvl := hV.len
    rw [drop_head hjl noItm] at hT hN hY hM
    have hmean : ∀ vals r, meanL xs fl L (xs.drop j) vals r = meanL xs fl L (xs.getD j noItm :: xs.drop (j + 1)) vals r := fun vals r => by rw [drop_head hjl noItm]
    obtain ⟨hg0, hn2⟩ := names_given hL hT.1 hT.2.1 hN
    have hg : Given xs tys.length L fr ((xs.getD j noItm).top + 1) := by rw [hl]; exact hg0
    have htk := take_next hjl noItm
    rw [drop_head hjl noItm]
    generalize hx : xs.getD j noItm = x at *
    rw [typesAt] at hY
    rw [manyAt] at hM
    by_cases hc : (tyOf xs tys L (x.top + 1) x.top).toNat = 0 ∨ (x.name = [] ∧ (tyOf xs tys L (x.top + 1) x.top).toNat ≠ 116)
    · rw [if_pos hc] at hY; simp at hY
    rw [if_neg hc] at hY
    have hne : tyOf xs tys L (x.top + 1) x.top ≠ 0 := fun e => hc (.inl (by rw [e]; rfl))
    have hnb : (x.name == []) = decide (x.name = []) := by
      by_cases e : x.name = []
      · rw [e]; rfl
      · rw [decide_eq_false e]; exact beq_false_of_ne e
    by_cases hb : 10 < l + (if x.name == [] then 0 else 1) ∨ 20 < j + 1 - (l + (if x.name == [] then 0 else 1)) ∨ 200 < x.parts ∨ 20 < dep (x.top + 1) L x.top
    · rw [if_pos hb] at hM; simp at hM
    rw [if_neg hb] at hM
    have hit : isTy (tyOf xs tys L (x.top + 1) x.top) := by
      rcases tyOf_ty hP.tokw hI _ hT.1.fit hg with h0 | h0
      · exact absurd h0 hne
      · exact h0
    have ht := to_tr (vals := vals) (fl := fl) hP.tokw hI (by omega) hvl hP.num _ hT.1.fit hg hne
    have hw20 := wf_dep _ ht.wf (g := 20) (by omega)
    have hw : WfT 24 (toTr (idx (giv xs)) L (x.top + 1) x.top) := hw20.up (by omega)
    have hcn := cnt_tree (ix := idx (giv xs)) _ hT.1.fit
    have hty : tyTr lt 24 (toTr (idx (giv xs)) L (x.top + 1) x.top) = tcode (tyOf xs tys L (x.top + 1) x.top) := by
      rw [ty_alike h3, ty_any hw ht.wf]
      have := ht.ty
      rw [hl] at this
      exact this
    have hev : evT env fl 24 (toTr (idx (giv xs)) L (x.top + 1) x.top) = tellF xs vals fl L (x.top + 1) x.top := by
      rw [ev_alike h4, ev_any hw ht.wf]
      have := ht.ev
      rw [hvl, hl] at this
      exact this
    have hct : cntT 24 (toTr (idx (giv xs)) L (x.top + 1) x.top) = x.parts - fr := by
      rw [cnt_any hw ht.wf, hcn.2, ← hT.2.1]
    have hpar := hT.2.1
    have hz : tcode (tyOf xs tys L (x.top + 1) x.top) ≠ 0 := fun e => hne ((tcode_zero (.inr hit)).1 e)
    have hV' := hV.snoc (tell_has hV hF hP.num _ hT.1.fit hg hne)
    have hI' : ∀ c ∈ tys ++ [tyOf xs tys L (x.top + 1) x.top], isTy c := fun c hcm => by
      simp only [List.mem_append, List.mem_singleton] at hcm
      rcases hcm with hcm | rfl
      · exact hI c hcm
      · exact hit
    have hlen : (xs.take j).length = j := by rw [List.length_take]; omega
    have hlt2 := letTys_snoc (xs.take j) x (tyOf xs tys L (x.top + 1) x.top) tys (by omega)
    have hlv2 := letVals_snoc (xs.take j) x (tellF xs vals fl L (x.top + 1) x.top) vals (by omega)
    have hlv : (letVals (xs.take j) vals).length = l := by
      rw [letVals_len _ _ (by omega), ← letTys_len _ tys (by omega)]; exact hll
    rw [← htk] at hlt2 hlv2
    by_cases hn : x.name = []
    · rw [hn] at hb hM
      simp only [beq_self_eq_true, if_true, Nat.add_zero] at hb hM
      rw [if_pos hn] at hlt2 hlv2
      have I := ih (j + 1) l (r + 1) x.parts _ _ env lt (by omega) (by omega) hV' (by simp [hl]) hT.2.2 hn2 hY hI' hM (by rw [hlt2]; exact hll) (by omega) h10 (by omega) (by omega) h1 h2 (fun i => by rw [hlt2]; exact h3 i) (fun i => by rw [hlv2]; exact h4 i)
      have e116 : (tyOf xs tys L (x.top + 1) x.top).toNat = 116 := Classical.byContradiction fun e => hc (.inr ⟨hn, e⟩)
      have ei : itsT (idx (giv xs)) L l r (x :: xs.drop (j + 1)) = ⟨if x.allow then 12 else 13, r + 1, toTr (idx (giv xs)) L (x.top + 1) x.top⟩ :: itsT (idx (giv xs)) L l (r + 1) (xs.drop (j + 1)) := by rw [itsT, if_pos hn]
      rw [ei]
      have hk : ((if x.allow then 12 else 13 : Nat) = 12 ∨ (if x.allow then 12 else 13 : Nat) = 13) := by cases x.allow <;> simp
      refine ⟨⟨hw, by rw [hty]; exact hz, .inr ⟨hk, ?_, by show r + 1 ≤ 255; omega, I.ty⟩⟩, .inr ⟨by show (if x.allow then 12 else 13 : Nat) ≠ 11; cases x.allow <;> simp, I.seq⟩, ?_, ?_, ?_, ?_, fun _ => ?_⟩
      · rw [hty]; unfold tcode; rw [e116]; rfl
      · rw [meanT, if_neg (by show ¬ (if x.allow then 12 else 13 : Nat) = 11; cases x.allow <;> simp), hmean, meanL, if_pos hn]
        simp only [hev]
        by_cases e1 : tellF xs vals fl L (x.top + 1) x.top = 1
        · rw [if_pos e1, if_pos e1]; cases x.allow <;> rfl
        · rw [if_neg e1, if_neg e1]; exact I.mean
      · show cntT 24 _ + cntI 24 _ = _
        rw [hct, I.cnt]
        have := I.fr
        omega
      · have := I.fr; omega
      · have := I.len
        simp only [List.length_cons]
        omega
      · by_cases e : j + 1 < xs.length
        · exact I.many e
        · have h9 : xs.drop (j + 1) = [] := List.drop_of_length_le (by omega)
          have h8 := hT.2.2
          rw [h9] at h8
          have h8 : x.parts = L.length := h8
          omega
    · have hnf : (x.name == []) = false := by rw [hnb]; exact decide_eq_false hn
      rw [hnf] at hb hM
      simp only [Bool.false_eq_true, if_false] at hb hM
      rw [if_neg hn] at hlt2 hlv2
      have I := ih (j + 1) (l + 1) r x.parts _ _ (env.set l (tellF xs vals fl L (x.top + 1) x.top)) (lt.set l (tcode (tyOf xs tys L (x.top + 1) x.top))) (by omega) (by omega) hV' (by simp [hl]) hT.2.2 hn2 hY hI' hM (by rw [hlt2, List.length_append, hll]; rfl) (by omega) (by omega) h20 (by omega) (by rw [List.length_set]; exact h1) (by rw [List.length_set]; exact h2)
        (fun i => by rw [hlt2]; have := grow_alike (v := tcode (tyOf xs tys L (x.top + 1) x.top)) h3 (by rw [h1, hll]; omega) i; rw [hll] at this; exact this)
        (fun i => by rw [hlv2]; have := grow_alike (v := tellF xs vals fl L (x.top + 1) x.top) h4 (by rw [h2, hlv]; omega) i; rw [hlv] at this; exact this)
      have ei : itsT (idx (giv xs)) L l r (x :: xs.drop (j + 1)) = ⟨11, l, toTr (idx (giv xs)) L (x.top + 1) x.top⟩ :: itsT (idx (giv xs)) L (l + 1) r (xs.drop (j + 1)) := by rw [itsT, if_neg hn]
      rw [ei]
      refine ⟨⟨hw, by rw [hty]; exact hz, .inl ⟨rfl, by show l < lt.length; omega, ?_⟩⟩, .inl ⟨rfl, rfl, I.seq⟩, ?_, ?_, ?_, ?_, fun _ => ?_⟩
      · simp only [hty]; exact I.ty
      · rw [meanT, if_pos rfl, hmean, meanL, if_neg hn]
        simp only [hev]
        exact I.mean
      · show cntT 24 _ + cntI 24 _ = _
        rw [hct, I.cnt]
        have := I.fr
        omega
      · have := I.fr; omega
      · have := I.len
        simp only [List.length_cons]
        omega
      · by_cases e : j + 1 < xs.length
        · exact I.many e
        · have h9 : xs.drop (j + 1) = [] := List.drop_of_length_le (by omega)
          have h8 := hT.2.2
          rw [h9] at h8
          have h8 : x.parts = L.length := h8
          omega
/-- A policy's items, all of them. -/
def polT (L : List Pt) (xs : List Itm) : List ItT := itsT (idx (giv xs)) L 0 0 xs
structure PolT (xs : List Itm) (L : List Pt) : Prop where
  ty : TyI 24 zeros10 (polT L xs)
  seq : SeqI 0 (polT L xs)
  mean : ∀ fl, FieldsOK fl → meanT 24 fl zeroV (polT L xs) = (meanL xs fl L xs [] 0).getD (false, 0)
  cnt : cntI 24 (polT L xs) = L.length
  len : (polT L xs).length = xs.length
  few : L.length ≤ 200 ∧ xs.length ≤ 30
theorem pol_t {xs : List Itm} {L : List Pt} (h : MeanOK L xs) (hM : manyAt L xs 0 0 = none) : PolT xs L := by
  have zv : ∀ i, zeroV.getD i 0 = 0 := fun i => by
    unfold zeroV
    rw [List.getD_eq_getElem?_getD]
    rcases i with _ | _ | _ | _ | _ | _ | _ | _ | _ | _ | i <;> simp
  have H := fun fl (hF : FieldsOK fl) => its_ok h.parts h.print.parts hF xs.length 0 0 0 0 [] [] zeroV zeros10 (by omega) (Nat.zero_le _) ⟨rfl, fun i hi => by simp at hi⟩ rfl h.print.trees h.names h.types (by simp) hM rfl rfl (by omega) (by omega) (by omega) rfl rfl (fun i => by rw [zeros10_at]; rfl) (fun i => by rw [zv]; rfl)
  simp only [List.drop_zero] at H
  have h0 := H zeros9 (by
    refine ⟨rfl, fun i hi => ?_⟩
    have e : zeros9.getD i 0 = 0 := by
      unfold zeros9
      rw [List.getD_eq_getElem?_getD]
      rcases i with _ | _ | _ | _ | _ | _ | _ | _ | _ | i <;> simp
    rw [e]; exact has_truth _ false)
  refine ⟨h0.ty, h0.seq, fun fl hF => (H fl hF).mean, by have := h0.cnt; exact this, h0.len, ?_⟩
  by_cases e : 0 < xs.length
  · have := h0.many e; omega
  · have h9 : xs = [] := List.eq_nil_of_length_eq_zero (by omega)
    have h8 := h.print.trees
    subst h9
    have h8 : 0 = L.length := h8
    simp; omega
/-- What a text that was read gives. -/
theorem many_known (l : List UInt8) (h0 : (readOf l).1.1 = 0) : manyAt (readOf l).2.1 (readOf l).2.2 0 0 = none := by
  unfold readOf at *
  by_cases h1 : 1000 < l.length
  · rw [if_pos h1] at h0; simp at h0
  · rw [if_neg h1] at h0 ⊢
    cases hx : (lex (l.length + 1) l 0).2 with
    | some p => rw [hx] at h0; simp at h0
    | none =>
      rw [hx] at h0
      simp only [] at h0 ⊢
      generalize allOf (lex (l.length + 1) l 0).1 = R at *
      unfold verdictOf at h0
      by_cases ok : R.ok = false
      · rw [if_pos ok] at h0; simp at h0
      · rw [if_neg ok] at h0
        cases e : manyAt R.L R.xs 0 0 with
        | none => rfl
        | some p => rw [e] at h0; simp at h0

/-- The same policy, by what was meant. -/
def nTr (ix : List UInt8 → Int) (t : Tok) (l : List Tr) : Tr := ⟨kindOf t, nmOf t, if kindOf t = 2 then ix (ownOf t) else 0, l⟩
theorem fair_tr (ix : List UInt8 → Int) : Fair (nTr ix) := fun t s l h _ => by
  obtain ⟨h1, h2⟩ := h
  unfold nTr kindOf nmOf ownOf tokS
  by_cases e : s.k = 110
  · rw [if_pos e] at h2
    simp [h1, e, h2]
  · rw [if_neg e] at h2
    simp [h1, h2]
theorem to_fo (ix : List UInt8 → Int) (f : Nat) (L : List Pt) : ∀ i, toTr ix L f i = foL (nTr ix) noTr f L i := by
  induction f with
  | zero => intro i; rfl
  | succ f ih =>
    intro i
    rw [toTr, foL]
    unfold nTr
    rw [show toTr ix L f = foL (nTr ix) noTr f L from funext ih]
    rfl
def itsS (ix : List UInt8 → Int) (d : Nat) : Nat → Nat → List SyI → List ItT
  | _, _, [] => []
  | l, r, s :: q => if s.name = [] then ⟨if s.allow then 12 else 13, r + 1, foS (nTr ix) noTr d s.sy⟩ :: itsS ix d l (r + 1) q else ⟨11, l, foS (nTr ix) noTr d s.sy⟩ :: itsS ix d (l + 1) r q
theorem its_same {ix : List UInt8 → Int} {d : Nat} {L : List Pt} : ∀ {xs : List Itm} {pol : List SyI} {fr fr' l r : Nat}, TreesAt L xs fr' → PolIs d L xs pol fr → itsT ix L l r xs = itsS ix d l r pol
  | [], [], _, _, _, _, _, _ => rfl
  | [], _ :: _, _, _, _, _, _, h => h.elim
  | _ :: _, [], _, _, _, _, _, h => h.elim
  | x :: xs, s :: q, fr, fr', l, r, hT, h => by
    have e : toTr ix L (x.top + 1) x.top = foS (nTr ix) noTr d s.sy := by rw [to_fo]; exact fo_same (fair_tr ix) _ hT.1.fit h.2.2.1
    rw [itsT, itsS, e, h.1, h.2.1, its_same hT.2.2 h.2.2.2.2.2, its_same hT.2.2 h.2.2.2.2.2]
theorem giv_names : ∀ {xs ys : List Itm}, xs.map Itm.name = ys.map Itm.name → giv xs = giv ys
  | [], [], _ => rfl
  | [], _ :: _, h => by simp at h
  | _ :: _, [], h => by simp at h
  | x :: xs, y :: ys, h => by
    simp only [List.map_cons, List.cons.injEq] at h
    rw [giv, giv, h.1, giv_names h.2]
theorem pol_same {d : Nat} {L : List Pt} {xs : List Itm} {pol : List SyI} (hT : TreesAt L xs 0) (h : PolIs d L xs pol 0) : polT L xs = itsS (idx (giv (pol.map itmOf))) d 0 0 pol := by
  unfold polT
  rw [giv_names h.names]
  exact its_same hT h
/-- A plain form is the same policy. -/
theorem pol_again (l : List UInt8) (h0 : (readOf l).1.1 = 0) (hl : (textOf l).length ≤ 1000) : polT (readOf (textOf l)).2.1 (readOf (textOf l)).2.2 = polT (readOf l).2.1 (readOf l).2.2 := by
  obtain ⟨d, pol, h1, h2, h3, h4⟩ := known_pol l h0
  have e : textOf l = printS d pol := by unfold textOf; rw [if_pos h0, print_same h1 h2]
  rw [e] at hl ⊢
  obtain ⟨q1, q2, _⟩ := read_pol (d := d) hl (print_lex pol h4) (printed_rd h4)
  rw [fst_map] at q2
  rw [pol_same q1 q2, pol_same h1 h2]
end Go.Proofs.YtfkdailfcmnjlaaGreatDoor
