/-
  What the plain reader keeps: it goes forward, its parts stand one behind the other, it ends. What is known of the words of a text, and of a policy that the plain reader read. The reference's functions 'read' and 'Check' answer as the plain reading does, of every text. What a policy says of an event: plain Lean functions; the document's scalars. The program's small functions of bytes and words answer as plain Lean functions do. The program's function 'name' answers as the plain lexer does. The program's function 'sign' answers as the plain lexer does. What the library's plain reading of a number gives of digits. The program's function 'number' answers as the plain lexer does.
-/
import Derived.Test.YtfkdailfcmnjlaaGreatDoorPlain01
import Derived.Test.YtfkdailfcmnjlaaGreatDoorLays
import Derived.WalkKit
import Derived.Deep.QuietTactic
import Derived.BigQuiet
import Derived.WalkSpells
import GoSem.Op.String
import Derived.Deep.AppendLies
import Derived.Deep.RegionHeld3
import Derived.Deep.DrawnRows
import Derived.Deep.RegionHeldLaw
import Derived.Deep.RegionLaw
import Derived.Lib.ParseIntBCases
set_option linter.unusedVariables false
set_option linter.unusedSimpArgs false
namespace Go.Proofs.YtfkdailfcmnjlaaGreatDoor

/-- How many parts a word asks for. -/
def Arity (t : Tok) (n : Nat) : Prop := (t.k ≠ 110 → t.k ≠ 111 → t.text = [61] → 2 ≤ n) ∧ (t.k ≠ 110 → t.k ≠ 111 → t.text = [105, 102] → 3 ≤ n)

/-- From a place on the parts ask for parts from that place on, ahead of them. -/
def Inv (b : Nat) (L : List Pt) : Prop := ∀ k, b ≤ k → k < L.length → (L.getD k noPt).subs.length ≤ 3 ∧ (∀ j ∈ (L.getD k noPt).subs, b ≤ j ∧ j < k) ∧ Arity (L.getD k noPt).tok (L.getD k noPt).subs.length

theorem getD_left {L M : List Pt} {k : Nat} (h : k < L.length) : (L ++ M).getD k noPt = L.getD k noPt := by
  simp [List.getD_eq_getElem?_getD, List.getElem?_append_left h]
theorem getD_last (L : List Pt) (p : Pt) : (L ++ [p]).getD L.length noPt = p := by simp [List.getD_eq_getElem?_getD]

theorem Inv.snoc {b : Nat} {L : List Pt} (h : Inv b L) (p : Pt) (h3 : p.subs.length ≤ 3) (hs : ∀ j ∈ p.subs, b ≤ j ∧ j < L.length) (ha : Arity p.tok p.subs.length) : Inv b (L ++ [p]) := by
  intro k hb hk
  by_cases e : k < L.length
  · rw [getD_left e]; exact h k hb e
  · have : k = L.length := by simp at hk; omega
    subst this
    rw [getD_last]; exact ⟨h3, hs, ha⟩
theorem Inv.mono {b b' : Nat} {L : List Pt} (h : Inv b L) (hb : b ≤ b') (hn : L.length ≤ b') : Inv b' L := by
  intro k h1 h2; omega

theorem arity_w {t : Tok} {x : List UInt8} (h : isW t x = true) (n : Nat) (h2 : x = [61] → 2 ≤ n) (h3 : x = [105, 102] → 3 ≤ n) : Arity t n := by
  unfold isW at h; simp at h
  exact ⟨fun _ _ e => h2 (by rw [← h.2]; exact e), fun _ _ e => h3 (by rw [← h.2]; exact e)⟩
theorem arity_join {n : Nat} {t : Tok} (h : joins n t = true) : Arity t 2 := by
  refine ⟨fun _ _ _ => Nat.le_refl _, fun _ _ e => ?_⟩
  unfold joins at h; rw [e] at h
  unfold signsOf at h
  exfalso
  revert h
  by_cases h0 : n = 0
  · rw [if_pos h0]; simp [idx]
  · rw [if_neg h0]
    by_cases h1 : n = 1
    · rw [if_pos h1]; simp [idx]
    · rw [if_neg h1]
      by_cases h3 : n = 3
      · rw [if_pos h3]; simp [idx]
      · rw [if_neg h3]; simp [idx]
theorem arity_alone {t : Tok} (h : alone t = true) : Arity t 0 := by
  unfold alone at h
  refine ⟨fun h1 h2 e => ?_, fun h1 h2 e => ?_⟩
  · rw [e] at h
    have k1 : idx kMembers [61] = -1 := by decide
    have k2 : idx kFields [61] = -1 := by decide
    rw [k1, k2] at h
    simp [h1, h2, wTrue, wFalse] at h
  · rw [e] at h
    have k1 : idx kMembers [105, 102] = -1 := by decide
    have k2 : idx kFields [105, 102] = -1 := by decide
    rw [k1, k2] at h
    simp [h1, h2, wTrue, wFalse] at h

/-- What a reading that went well keeps. -/
structure Kept (b : Nat) (tag i : Nat) (L : List Pt) (r : Rd) : Prop where
  fwd : i ≤ r.i
  fwd1 : tag < 10 → i < r.i
  more : ∃ new, r.L = L ++ new
  inv : Inv b r.L
  top : b ≤ r.top ∧ r.top < r.L.length

theorem P_kept (f : Nat) : ∀ (tag : Nat) (ts : List Tok) (i : Nat) (L : List Pt) (x b : Nat) (r : Rd), P f tag ts i L x = some r → r.ok = true → b ≤ L.length → Inv b L → (10 ≤ tag → b ≤ x ∧ x < L.length) → (tag ≤ 6 ∨ tag = 10 ∨ tag = 11 ∨ tag = 13 ∨ tag = 14) → Kept b tag i L r := by
  induction f with
  | zero => intro tag ts i L x b r h; rw [P] at h; simp at h
  | succ f ih =>
    intro tag ts i L x b r h ok hb hI hx ht
    by_cases h6 : tag = 6
    · subst h6
      by_cases hw : isW (tokAt ts i) wIf = true
      · obtain ⟨ra, rb, rc, hPa, hNb, hNc, hrc, hri, hrp⟩ := if_split h hw
        rw [hrc] at ok
        obtain ⟨oka, okb, rfl⟩ := hrp ok
        have ka := ih 6 ts (i + 1) L 0 b ra hPa oka hb hI (by omega) (by omega)
        unfold Nx at hNb hNc
        have hwb : isW (tokAt ts ra.i) wThen = true := by
          cases e : isW (tokAt ts ra.i) wThen with
          | true => rfl
          | false => rw [if_neg (by simp [e])] at hNb; rw [hNb.1] at okb; simp at okb
        have hwc : isW (tokAt ts rb.i) wElse = true := by
          cases e : isW (tokAt ts rb.i) wElse with
          | true => rfl
          | false => rw [if_neg (by simp [e])] at hNc; rw [hNc.1] at ok; simp at ok
        rw [if_pos ⟨oka, hwb⟩] at hNb
        rw [if_pos ⟨okb, hwc⟩] at hNc
        obtain ⟨na, ea⟩ := ka.more
        have kb := ih 6 ts (ra.i + 1) ra.L 0 b rb hNb okb (by rw [ea]; simp; omega) ka.inv (by omega) (by omega)
        obtain ⟨nb, eb⟩ := kb.more
        have kc := ih 6 ts (rb.i + 1) rb.L 0 b rc hNc ok (by rw [eb, ea]; simp; omega) kb.inv (by omega) (by omega)
        obtain ⟨nc, ec⟩ := kc.more
        have la : ra.L.length ≤ rb.L.length := by rw [eb]; simp
        have lb : rb.L.length ≤ rc.L.length := by rw [ec]; simp
        have t1 := ka.top; have t2 := kb.top; have t3 := kc.top
        have f1 := ka.fwd; have f2 := kb.fwd; have f3 := kc.fwd
        refine ⟨by simp [put]; omega, fun _ => by simp [put]; omega, ⟨na ++ (nb ++ (nc ++ [⟨tokAt ts i, [ra.top, rb.top, rc.top]⟩])), by simp [put, ec, eb, ea]⟩, ?_, by simp [put]; omega⟩
        exact kc.inv.snoc _ (by simp) (by intro j hj; simp at hj; rcases hj with rfl | rfl | rfl <;> omega) (arity_w hw 3 (by simp [wIf]) (by simp))
      · have k := ih 0 ts i L 0 b r (if_not h hw) ok hb hI (by omega) (by omega)
        exact ⟨k.fwd, fun _ => k.fwd1 (by omega), k.more, k.inv, k.top⟩
    · by_cases h5 : tag = 5
      · subst h5
        by_cases hw : isW (tokAt ts i) [40] = true
        · obtain ⟨ra, hPa, hr⟩ := one_open h hw
          rcases hr with ⟨oka, hwa, rfl⟩ | ⟨_, hr, _⟩
          · have ka := ih 6 ts (i + 1) L 0 b ra hPa oka hb hI (by omega) (by omega)
            have f1 := ka.fwd
            exact ⟨by simp; omega, fun _ => by simp; omega, ka.more, ka.inv, ka.top⟩
          · rw [hr] at ok; simp at ok
        · rcases one_alone h hw with ⟨ha, rfl⟩ | ⟨_, rfl⟩
          · exact ⟨by simp, fun _ => by simp, ⟨_, rfl⟩, hI.snoc _ (by simp) (by simp) (by simpa using arity_alone ha), by simp; omega⟩
          · simp at ok
      · by_cases h2 : tag = 2
        · subst h2
          by_cases hw : isW (tokAt ts i) wNot = true
          · obtain ⟨ra, hPa, hra, hri, hrp⟩ := not_yes h hw
            rw [hra] at ok
            have hrp := hrp ok
            subst hrp
            have ka := ih 2 ts (i + 1) L 0 b ra hPa ok hb hI (by omega) (by omega)
            obtain ⟨na, ea⟩ := ka.more
            have t1 := ka.top; have f1 := ka.fwd
            refine ⟨by simp [put]; omega, fun _ => by simp [put]; omega, ⟨na ++ [⟨tokAt ts i, [ra.top]⟩], by simp [put, ea]⟩, ?_, by simp [put]; omega⟩
            exact ka.inv.snoc _ (by simp) (by intro j hj; simp at hj; omega) (arity_w hw 1 (by simp [wNot]) (by simp [wNot]))
          · have k := ih 3 ts i L 0 b r (not_no h hw) ok hb hI (by omega) (by omega)
            exact ⟨k.fwd, fun _ => k.fwd1 (by omega), k.more, k.inv, k.top⟩
        · by_cases h10 : tag < 10
          · rw [P, if_neg h6, if_neg h5, if_neg h2, if_pos h10] at h
            cases ha : P f (tag + 1) ts i L 0 with
            | none => rw [ha] at h; simp [andThen] at h
            | some a =>
              rw [ha] at h
              simp only [andThen] at h
              by_cases oka : a.ok = true
              · rw [if_pos oka] at h
                · have ka := ih (tag + 1) ts i L 0 b a ha oka hb hI (by omega) (by omega)
                  obtain ⟨na, ea⟩ := ka.more
                  have kb := ih (10 + tag) ts a.i a.L a.top b r h ok (by rw [ea]; simp; omega) ka.inv (fun _ => ka.top) (by omega)
                  obtain ⟨nb, eb⟩ := kb.more
                  have f1 := ka.fwd1 (by omega); have f2 := kb.fwd
                  exact ⟨by omega, fun _ => by omega, ⟨na ++ nb, by rw [eb, ea, List.append_assoc]⟩, kb.inv, kb.top⟩
              · rw [if_neg oka] at h; simp at h; subst h; exact absurd ok oka
          · rw [P, if_neg h6, if_neg h5, if_neg h2, if_neg h10] at h
            have hx' := hx (by omega)
            by_cases hj : joins (tag - 10) (tokAt ts i) = true
            · rw [if_pos hj] at h
              cases hb' : P f (tag - 9) ts (i + 1) L 0 with
              | none => rw [hb'] at h; simp [andThen] at h
              | some c =>
                rw [hb'] at h
                simp only [andThen] at h
                by_cases okc : c.ok = true
                · rw [if_pos okc] at h
                  have kc := ih (tag - 9) ts (i + 1) L 0 b c hb' okc hb hI (by omega) (by omega)
                  obtain ⟨nc, ec⟩ := kc.more
                  have lc : L.length ≤ c.L.length := by rw [ec]; simp
                  have t1 := kc.top; have f1 := kc.fwd
                  have hI2 : Inv b (c.L ++ [⟨tokAt ts i, [x, c.top]⟩]) := kc.inv.snoc _ (by simp) (by intro j hj'; simp at hj'; rcases hj' with rfl | rfl <;> omega) (by simpa using arity_join hj)
                  by_cases h13 : tag = 13
                  · rw [if_pos h13] at h; simp at h; subst h
                    exact ⟨by simp [put]; omega, fun e => by omega, ⟨nc ++ [⟨tokAt ts i, [x, c.top]⟩], by simp [put, ec]⟩, hI2, by simp [put]; omega⟩
                  · rw [if_neg h13] at h
                    have kd := ih tag ts c.i (c.L ++ [⟨tokAt ts i, [x, c.top]⟩]) c.L.length b r h ok (by simp; omega) hI2 (fun _ => by simp; omega) ht
                    obtain ⟨nd, ed⟩ := kd.more
                    have f2 := kd.fwd
                    exact ⟨by omega, fun e => by omega, ⟨nc ++ (⟨tokAt ts i, [x, c.top]⟩ :: nd), by rw [ed, ec]; simp⟩, kd.inv, kd.top⟩
                · rw [if_neg okc] at h; simp at h; subst h; exact absurd ok okc
            · rw [if_neg hj] at h
              simp at h; subst h
              exact ⟨Nat.le_refl _, fun e => by omega, ⟨[], by simp⟩, hI, hx'⟩

theorem P_fwd (f : Nat) : ∀ (tag : Nat) (ts : List Tok) (i : Nat) (L : List Pt) (x : Nat) (r : Rd), P f tag ts i L x = some r → r.ok = true → (tag ≤ 6 ∨ tag = 10 ∨ tag = 11 ∨ tag = 13 ∨ tag = 14) → i ≤ r.i ∧ (tag < 10 → i < r.i) := by
  induction f with
  | zero => intro tag ts i L x r h; rw [P] at h; simp at h
  | succ f ih =>
    intro tag ts i L x r h ok ht
    by_cases h6 : tag = 6
    · subst h6
      by_cases hw : isW (tokAt ts i) wIf = true
      · obtain ⟨ra, rb, rc, hPa, hNb, hNc, hrc, hri, hrp⟩ := if_split h hw
        rw [hrc] at ok
        obtain ⟨oka, okb, _⟩ := hrp ok
        have ka := ih 6 ts (i + 1) L 0 ra hPa oka (by omega)
        unfold Nx at hNb hNc
        have hwb : isW (tokAt ts ra.i) wThen = true := by
          cases e : isW (tokAt ts ra.i) wThen with
          | true => rfl
          | false => rw [if_neg (by simp [e])] at hNb; rw [hNb.1] at okb; simp at okb
        have hwc : isW (tokAt ts rb.i) wElse = true := by
          cases e : isW (tokAt ts rb.i) wElse with
          | true => rfl
          | false => rw [if_neg (by simp [e])] at hNc; rw [hNc.1] at ok; simp at ok
        rw [if_pos ⟨oka, hwb⟩] at hNb
        rw [if_pos ⟨okb, hwc⟩] at hNc
        have kb := ih 6 ts (ra.i + 1) ra.L 0 rb hNb okb (by omega)
        have kc := ih 6 ts (rb.i + 1) rb.L 0 rc hNc ok (by omega)
        rw [hri]; omega
      · have k := ih 0 ts i L 0 r (if_not h hw) ok (by omega)
        exact ⟨k.1, fun _ => k.2 (by omega)⟩
    · by_cases h5 : tag = 5
      · subst h5
        by_cases hw : isW (tokAt ts i) [40] = true
        · obtain ⟨ra, hPa, hr⟩ := one_open h hw
          rcases hr with ⟨oka, hwa, rfl⟩ | ⟨_, hr, _⟩
          · have ka := ih 6 ts (i + 1) L 0 ra hPa oka (by omega)
            simp; omega
          · rw [hr] at ok; simp at ok
        · rcases one_alone h hw with ⟨ha, rfl⟩ | ⟨_, rfl⟩
          · simp
          · simp at ok
      · by_cases h2 : tag = 2
        · subst h2
          by_cases hw : isW (tokAt ts i) wNot = true
          · obtain ⟨ra, hPa, hra, hri, hrp⟩ := not_yes h hw
            rw [hra] at ok
            have ka := ih 2 ts (i + 1) L 0 ra hPa ok (by omega)
            rw [hri]; omega
          · have k := ih 3 ts i L 0 r (not_no h hw) ok (by omega)
            exact ⟨k.1, fun _ => k.2 (by omega)⟩
        · by_cases h10 : tag < 10
          · rw [P, if_neg h6, if_neg h5, if_neg h2, if_pos h10] at h
            cases ha : P f (tag + 1) ts i L 0 with
            | none => rw [ha] at h; simp [andThen] at h
            | some a =>
              rw [ha] at h
              simp only [andThen] at h
              by_cases oka : a.ok = true
              · rw [if_pos oka] at h
                have ka := ih (tag + 1) ts i L 0 a ha oka (by omega)
                have kb := ih (10 + tag) ts a.i a.L a.top r h ok (by omega)
                have := ka.2 (by omega)
                omega
              · rw [if_neg oka] at h; simp at h; subst h; exact absurd ok oka
          · rw [P, if_neg h6, if_neg h5, if_neg h2, if_neg h10] at h
            by_cases hj : joins (tag - 10) (tokAt ts i) = true
            · rw [if_pos hj] at h
              cases hb' : P f (tag - 9) ts (i + 1) L 0 with
              | none => rw [hb'] at h; simp [andThen] at h
              | some c =>
                rw [hb'] at h
                simp only [andThen] at h
                by_cases okc : c.ok = true
                · rw [if_pos okc] at h
                  have kc := ih (tag - 9) ts (i + 1) L 0 c hb' okc (by omega)
                  by_cases h13 : tag = 13
                  · rw [if_pos h13] at h; simp at h; subst h
                    simp [put]; omega
                  · rw [if_neg h13] at h
                    have kd := ih tag ts c.i (c.L ++ [⟨tokAt ts i, [x, c.top]⟩]) c.L.length r h ok ht
                    omega
                · rw [if_neg okc] at h; simp at h; subst h; exact absurd ok okc
            · rw [if_neg hj] at h
              simp at h; subst h
              simp; omega

theorem in_range {ts : List Tok} {i : Nat} (h : (tokAt ts i).k ≠ 0) : i < ts.length := by
  rcases Nat.lt_or_ge i ts.length with h1 | h1
  · exact h1
  · exact absurd (by unfold tokAt; rw [List.getD_eq_getElem?_getD, List.getElem?_eq_none h1]; rfl) h
theorem isW_range {ts : List Tok} {i : Nat} {x : List UInt8} (h : isW (tokAt ts i) x = true) : i < ts.length := in_range (by unfold isW at h; simp at h; omega)
theorem joins_range {ts : List Tok} {i n : Nat} (h : joins n (tokAt ts i) = true) : i < ts.length := in_range (by unfold joins at h; simp at h; omega)

/-- How many calls a form needs at one word. -/
def wt (tag : Nat) : Nat := if tag = 6 then 8 else if tag < 6 then 7 - tag else 1

theorem P_total (f : Nat) : ∀ (tag : Nat) (ts : List Tok) (i : Nat) (L : List Pt) (x : Nat), 16 * (ts.length - i) + wt tag ≤ f → (tag ≤ 6 ∨ tag = 10 ∨ tag = 11 ∨ tag = 13 ∨ tag = 14) → ∃ r, P f tag ts i L x = some r := by
  induction f with
  | zero => intro tag ts i L x h ht; exfalso; unfold wt at h; split at h; omega; split at h <;> omega
  | succ f ih =>
    intro tag ts i L x h ht
    by_cases h6 : tag = 6
    · subst h6
      have hw6 : wt 6 = 8 := rfl
      rw [P, if_pos rfl]
      by_cases hw : isW (tokAt ts i) wIf = true
      · rw [if_pos hw]
        have hr := isW_range hw
        obtain ⟨a, ha⟩ := ih 6 ts (i + 1) L 0 (by omega) (by omega)
        rw [ha]; simp only [andThen]
        by_cases oka : a.ok = true
        · rw [if_pos oka]
          have fa := (P_fwd f 6 ts (i + 1) L 0 a ha oka (by omega)).1
          by_cases ht' : isW (tokAt ts a.i) wThen = true
          · rw [if_pos ht']
            have hr2 := isW_range ht'
            obtain ⟨c, hc⟩ := ih 6 ts (a.i + 1) a.L 0 (by omega) (by omega)
            rw [hc]; simp only
            by_cases okc : c.ok = true
            · rw [if_pos okc]
              have fc := (P_fwd f 6 ts (a.i + 1) a.L 0 c hc okc (by omega)).1
              by_cases he : isW (tokAt ts c.i) wElse = true
              · rw [if_pos he]
                have hr3 := isW_range he
                obtain ⟨d, hd⟩ := ih 6 ts (c.i + 1) c.L 0 (by omega) (by omega)
                rw [hd]; simp only
                by_cases okd : d.ok = true
                · rw [if_pos okd]; exact ⟨_, rfl⟩
                · rw [if_neg okd]; exact ⟨_, rfl⟩
              · rw [if_neg he]; exact ⟨_, rfl⟩
            · rw [if_neg okc]; exact ⟨_, rfl⟩
          · rw [if_neg ht']; exact ⟨_, rfl⟩
        · rw [if_neg oka]; exact ⟨_, rfl⟩
      · rw [if_neg hw]
        exact ih 0 ts i L 0 (by have : wt 0 = 7 := rfl; omega) (by omega)
    · by_cases h5 : tag = 5
      · subst h5
        have hw5 : wt 5 = 2 := rfl
        rw [P, if_neg h6, if_pos rfl]
        by_cases hw : isW (tokAt ts i) [40] = true
        · rw [if_pos hw]
          have hr := isW_range hw
          obtain ⟨a, ha⟩ := ih 6 ts (i + 1) L 0 (by have : wt 6 = 8 := rfl; omega) (by omega)
          rw [ha]; simp only [andThen]
          by_cases oka : a.ok = true
          · rw [if_pos oka]
            by_cases hc : isW (tokAt ts a.i) [41] = true
            · rw [if_pos hc]; exact ⟨_, rfl⟩
            · rw [if_neg hc]; exact ⟨_, rfl⟩
          · rw [if_neg oka]; exact ⟨_, rfl⟩
        · rw [if_neg hw]
          by_cases ha : alone (tokAt ts i) = true
          · rw [if_pos ha]; exact ⟨_, rfl⟩
          · rw [if_neg ha]; exact ⟨_, rfl⟩
      · by_cases h2 : tag = 2
        · subst h2
          have hw2 : wt 2 = 5 := rfl
          rw [P, if_neg h6, if_neg h5, if_pos rfl]
          by_cases hw : isW (tokAt ts i) wNot = true
          · rw [if_pos hw]
            have hr := isW_range hw
            obtain ⟨a, ha⟩ := ih 2 ts (i + 1) L 0 (by omega) (by omega)
            rw [ha]; simp only [andThen]
            by_cases oka : a.ok = true
            · rw [if_pos oka]; exact ⟨_, rfl⟩
            · rw [if_neg oka]; exact ⟨_, rfl⟩
          · rw [if_neg hw]
            exact ih 3 ts i L 0 (by have : wt 3 = 4 := rfl; omega) (by omega)
        · by_cases h10 : tag < 10
          · rw [P, if_neg h6, if_neg h5, if_neg h2, if_pos h10]
            have hwt : wt (tag + 1) + 1 ≤ wt tag ∧ 2 ≤ wt tag := by
              have e : tag = 0 ∨ tag = 1 ∨ tag = 3 ∨ tag = 4 := by omega
              rcases e with rfl | rfl | rfl | rfl <;> decide
            obtain ⟨a, ha⟩ := ih (tag + 1) ts i L 0 (by omega) (by omega)
            rw [ha]; simp only [andThen]
            by_cases oka : a.ok = true
            · rw [if_pos oka]
              have fa := (P_fwd f (tag + 1) ts i L 0 a ha oka (by omega)).2 (by omega)
              have hwl : wt (10 + tag) = 1 := by unfold wt; rw [if_neg (by omega), if_neg (by omega)]
              exact ih (10 + tag) ts a.i a.L a.top (by rw [hwl]; omega) (by omega)
            · rw [if_neg oka]; exact ⟨_, rfl⟩
          · rw [P, if_neg h6, if_neg h5, if_neg h2, if_neg h10]
            have hwl : wt tag = 1 := by unfold wt; rw [if_neg (by omega), if_neg (by omega)]
            by_cases hj : joins (tag - 10) (tokAt ts i) = true
            · rw [if_pos hj]
              have hr := joins_range hj
              have hw9 : wt (tag - 9) ≤ 7 := by unfold wt; split; omega; split <;> omega
              obtain ⟨c, hc⟩ := ih (tag - 9) ts (i + 1) L 0 (by omega) (by omega)
              rw [hc]; simp only [andThen]
              by_cases okc : c.ok = true
              · rw [if_pos okc]
                have fc := (P_fwd f (tag - 9) ts (i + 1) L 0 c hc okc (by omega)).1
                by_cases h13 : tag = 13
                · rw [if_pos h13]; exact ⟨_, rfl⟩
                · rw [if_neg h13]
                  exact ih tag ts c.i _ _ (by omega) ht
              · rw [if_neg okc]; exact ⟨_, rfl⟩
            · rw [if_neg hj]; exact ⟨_, rfl⟩
end Go.Proofs.YtfkdailfcmnjlaaGreatDoor

namespace Go.Proofs.YtfkdailfcmnjlaaGreatDoor

theorem wordAt_ok {l : List UInt8} {a : Nat} {t : Tok} (hl : l.length ≤ 1000) (ha : a < l.length) (h : wordAt l a = some t) : t.k ≠ 101 ∧ TokOK t := by
  have hlen := wordAt_len ha h
  refine ⟨?_, by omega, ?_⟩
  · unfold wordAt at h
    rw [List.getElem?_eq_getElem ha] at h
    simp only at h
    repeat' split at h
    all_goals first
      | (simp at h; subst h; simp)
      | (simp at h)
  · intro hk
    unfold wordAt at h
    split at h
    · split at h
      · simp at h
      · rename_i hb
        simp at h; subst h
        refine ⟨cut_stop isD l a, ?_⟩
        unfold big at hb; simpa using hb
    · exfalso
      rw [List.getElem?_eq_getElem ha] at h
      simp only at h
      repeat' split at h
      all_goals first
        | (simp at h; subst h; simp at hk)
        | (simp at h)

theorem lex_ok (l : List UInt8) (hl : l.length ≤ 1000) (f : Nat) : ∀ (a : Nat) (ts : List Tok), a ≤ l.length → l.length - a < f → lex f l a = (ts, none) →
    0 < ts.length ∧ ts.length ≤ l.length - a + 1 ∧ (∀ t ∈ ts, TokOK t) ∧ (∀ i, i + 1 = ts.length → (ts.getD i noTok).k = 101) ∧ (∀ i, i + 1 < ts.length → (ts.getD i noTok).k ≠ 101) := by
  induction f with
  | zero => intro a ts _ h; omega
  | succ f ih =>
    intro a ts ha hf h
    have h1 := stop_ge isB l a
    have h2 := stop_le isB l a ha
    rw [lex] at h
    by_cases he : l.length ≤ stop isB l a
    · rw [if_pos he] at h; simp at h; subst h
      refine ⟨by simp, by simp, ?_, ?_, ?_⟩
      · intro t ht; simp at ht; subst ht; exact ⟨by simp, fun e => by simp at e⟩
      · intro i hi; simp at hi; subst hi; rfl
      · intro i hi; simp at hi
    · rw [if_neg he] at h
      cases hw : wordAt l (stop isB l a) with
      | none => rw [hw] at h; simp at h
      | some t =>
        rw [hw] at h
        simp only [Prod.mk.injEq] at h
        obtain ⟨rfl, hn⟩ := h
        have hlen := wordAt_len (by omega) hw
        have hok := wordAt_ok hl (by omega) hw
        have := ih (stop isB l a + t.text.length) (lex f l (stop isB l a + t.text.length)).1 (by omega) (by omega) (by rw [← hn])
        obtain ⟨r1, r2, r3, r4, r5⟩ := this
        refine ⟨by simp, by simp; omega, ?_, ?_, ?_⟩
        · intro u hu; simp at hu; rcases hu with rfl | hu
          · exact hok.2
          · exact r3 u hu
        · intro i hi
          cases i with
          | zero => simp only [List.length_cons] at hi; omega
          | succ i => simpa using r4 i (by simpa using hi)
        · intro i hi
          cases i with
          | zero => simpa using hok.1
          | succ i => simpa using r5 i (by simpa using hi)

theorem item_kept {F : Nat} {ts : List Tok} {i : Nat} {L : List Pt} {r : ItR} (h : itemP F ts i L = some r) (ok : r.ok = true) :
    i < r.i ∧ (∃ new, r.L = L ++ new) ∧ Inv L.length r.L ∧ L.length ≤ r.it.top ∧ r.it.top < r.L.length ∧ r.it.parts = r.L.length := by
  have tail : ∀ (j : Nat) (x : Itm), i < j → itemTail F ts j L x = some r → i < r.i ∧ (∃ new, r.L = L ++ new) ∧ Inv L.length r.L ∧ L.length ≤ r.it.top ∧ r.it.top < r.L.length ∧ r.it.parts = r.L.length := by
    intro j x hj hr
    obtain ⟨a, ha, hres⟩ := tail_split hr
    rcases hres with ⟨oka, hw, rfl⟩ | ⟨_, hr1, _⟩
    · have k := P_kept F 6 ts j L 0 L.length a ha oka (Nat.le_refl _) (fun k h1 h2 => by omega) (by omega) (by omega)
      have f1 := k.fwd
      exact ⟨by simp; omega, k.more, k.inv, k.top.1, k.top.2, rfl⟩
    · rw [hr1] at ok; simp at ok
  unfold itemP at h
  split at h
  · split at h
    · split at h
      · exact tail _ _ (by omega) h
      · simp [itFail] at h; subst h; simp at ok
    · simp [itFail] at h; subst h; simp at ok
  · split at h
    · split at h
      · exact tail _ _ (by omega) h
      · simp [itFail] at h; subst h; simp at ok
    · simp [itFail] at h; subst h; simp at ok

theorem item_total {F : Nat} {ts : List Tok} (i : Nat) (L : List Pt) (hF : 16 * ts.length + 8 ≤ F) : ∃ r, itemP F ts i L = some r := by
  have tail : ∀ (j : Nat) (x : Itm), ∃ r, itemTail F ts j L x = some r := by
    intro j x
    obtain ⟨a, ha⟩ := P_total F 6 ts j L 0 (by have : wt 6 = 8 := rfl; omega) (by omega)
    unfold itemTail; rw [ha]; simp only
    repeat' split
    all_goals exact ⟨_, rfl⟩
  unfold itemP
  repeat' split
  all_goals first
    | exact tail _ _
    | exact ⟨_, rfl⟩

theorem parse_total {F : Nat} {ts : List Tok} (hF : 16 * ts.length + 8 ≤ F) (hfin : ∀ i, i + 1 = ts.length → (ts.getD i noTok).k = 101) (g : Nat) : ∀ (i : Nat) (L : List Pt) (xs : List Itm), ts.length - i < g → ∃ R, parseAll F ts g i L xs = some R := by
  induction g with
  | zero => intro i L xs h; omega
  | succ g ih =>
    intro i L xs h
    rw [parseAll]
    by_cases hk : (tokAt ts i).k = 101
    · rw [if_pos hk]; exact ⟨_, rfl⟩
    · rw [if_neg hk]
      obtain ⟨r, hr⟩ := item_total i L hF
      rw [hr]; simp only
      by_cases ok : r.ok = true
      · rw [if_pos ok]
        have := (item_kept hr ok).1
        by_cases hlt : i < ts.length
        · exact ih r.i r.L _ (by omega)
        · exfalso
          have hn : tokAt ts i = noTok := by unfold tokAt; rw [List.getD_eq_getElem?_getD, List.getElem?_eq_none (by omega)]; rfl
          unfold itemP at hr
          rw [hn] at hr
          have e1 : isW noTok wLet = false := by decide
          have e2 : isW noTok wAllow = false := by decide
          have e3 : isW noTok wDeny = false := by decide
          rw [e1, e2, e3] at hr
          simp [itFail] at hr; subst hr; simp at ok
      · rw [if_neg ok]; exact ⟨_, rfl⟩

/-- A run of parts that belongs to one item. -/
def Seg (L : List Pt) (fr to : Nat) : Prop := ∀ k, fr ≤ k → k < to → (L.getD k noPt).subs.length ≤ 3 ∧ (∀ j ∈ (L.getD k noPt).subs, fr ≤ j ∧ j < k) ∧ Arity (L.getD k noPt).tok (L.getD k noPt).subs.length
def Segs (L : List Pt) : List Itm → Nat → Prop
  | [], fr => fr = L.length
  | x :: r, fr => fr ≤ x.top ∧ x.top < x.parts ∧ x.parts ≤ L.length ∧ Seg L fr x.parts ∧ Segs L r x.parts

theorem Segs.snoc {L : List Pt} {xs : List Itm} {fr : Nat} (h : Segs L xs fr) (new : List Pt) (x : Itm) (h1 : L.length ≤ x.top) (h2 : x.top < x.parts) (h3 : x.parts = (L ++ new).length) (h4 : Inv L.length (L ++ new)) : Segs (L ++ new) (xs ++ [x]) fr := by
  induction xs generalizing fr with
  | nil =>
    have : fr = L.length := h
    subst this
    exact ⟨h1, h2, by omega, fun k a b => h4 k a (by omega), h3⟩
  | cons y r ih =>
    obtain ⟨a, b, c, d, e⟩ := h
    refine ⟨a, b, by simp; omega, ?_, ih e⟩
    intro k hk1 hk2
    rw [getD_left (by omega)]
    exact d k hk1 hk2

end Go.Proofs.YtfkdailfcmnjlaaGreatDoor

namespace Go.Proofs.YtfkdailfcmnjlaaGreatDoor
open Go Go.RowKit
set_option maxRecDepth 100000

/-- What all items of words are. -/
def allOf (ts : List Tok) : AllR := (parseAll (16 * ts.length + 8) ts (ts.length + 1) 0 [] []).getD ⟨false, 0, [], []⟩
/-- What reading a text answers: the error and the place; the parts; the items. -/
def readOf (l : List UInt8) : (Nat × Nat) × List Pt × List Itm :=
  if 1000 < l.length then ((1, 0), [], [])
  else match (lex (l.length + 1) l 0).2 with
    | some p => ((2, p), [], [])
    | none => (verdictOf (lex (l.length + 1) l 0).1 (allOf (lex (l.length + 1) l 0).1), (allOf (lex (l.length + 1) l 0).1).L, (allOf (lex (l.length + 1) l 0).1).xs)

end Go.Proofs.YtfkdailfcmnjlaaGreatDoor

namespace Go.Proofs.YtfkdailfcmnjlaaGreatDoor
open Go Go.RowKit
set_option maxRecDepth 100000
attribute [local go_sem ↓] Go.wp_at_zero Go.wp_at_succ

/-- Within 64 bits. -/
def In64 (a : Int) : Prop := -9223372036854775808 ≤ a ∧ a ≤ 9223372036854775807
/-- A number brought within 64 bits. -/
def clampI (a : Int) : Int := if 9223372036854775807 < a then 9223372036854775807 else if a < -9223372036854775808 then -9223372036854775808 else a
theorem clamp_in (a : Int) : In64 (clampI a) := by unfold clampI In64; split; omega; split <;> omega
def truthI (b : Bool) : Int := if b then 1 else 0
def knownI (n : Int) : Int := if n < 0 ∨ 4 < n then 0 else n
/-- What a sign makes of two. -/
def twoI (s : List UInt8) (a b : Int) : Int :=
  if s = [43] then clampI (a + b) else if s = [45] then clampI (a - b) else if s = [61] then truthI (a == b) else if s = [60] then truthI (decide (a < b)) else if s = [60, 61] then truthI (decide (a ≤ b))
  else if s = [111, 114] then truthI (a == 1 || b == 1) else truthI (a == 1 && b == 1)
theorem wrap64 {x : Int} (h : In64 x) : IntKind.i64.wrap x = x := by
  unfold In64 at h
  simp [IntKind.wrap, IntKind.signed, IntKind.bits]
  omega

end Go.Proofs.YtfkdailfcmnjlaaGreatDoor

namespace Go.Proofs.YtfkdailfcmnjlaaGreatDoor
open Go Go.RowKit
set_option maxRecDepth 100000

/-- The words as they are spelt, by their kinds. -/
def spell : List (List UInt8) := [[], [], [], [40], [41], [59], [43], [45], [61], [60, 61], [60], [108, 101, 116], [97, 108, 108, 111, 119], [100, 101, 110, 121], [105, 102], [116, 104, 101, 110], [101, 108, 115, 101], [111, 114], [97, 110, 100], [110, 111, 116], [116, 114, 117, 101], [102, 97, 108, 115, 101], [110, 111, 110, 101], [105, 110, 118, 105, 116, 101], [106, 111, 105, 110], [108, 101, 97, 118, 101], [98, 97, 110], [108, 101, 118, 101, 108], [114, 97, 110, 107], [110, 101, 101, 100], [119, 104, 101, 110], [115, 101, 110, 100, 101, 114], [116, 97, 114, 103, 101, 116], [119, 97, 110, 116, 115], [115, 101, 108, 102], [111, 112, 101, 110]]

/-- The table of spellings lies in its variable. -/
def Sp (w : World) : Prop := ∀ k, k < 36 → w.cell? ⟨0, k, none⟩ = some (S (spell.getD k []))
theorem Sp.pos {w : World} (h : Sp w) : 0 < w.heap.size := World.block_lt_of_cell? w _ (h 0 (by decide))
theorem Sp.below {w w' : World} (h : Sp w) {B : Nat} (hB : 0 < B) (hb : Below B w w') : Sp w' := fun k hk => by rw [hb.cell (p := ⟨0, k, none⟩) hB]; exact h k hk

set_option maxHeartbeats 400000 in
theorem spelling_any (k : Nat) (w : World) (h : Sp w) (hk : k < 36) : Calls Tryz.prog 119 #[.int .i64 k] w fun e w' => e = .returned (S (spell.getD k [])) ∧ w' = w := by
  have hc := h k hk
  have b1 : (0 : Int) ≤ (k : Int) := by omega
  have b2 : (k : Int) < 36 := by omega
  generalize spell.getD k [] = t at *
  go_enter Tryz.func119, Tryz.ntmps119
  go_wp2
  go_ret
  exact ⟨rfl, rfl⟩

set_option maxHeartbeats 400000 in
theorem isDigit_any (c : UInt8) (w : World) : Calls Tryz.prog 145 #[.int .u8 c.toNat] w fun e w' => e = .returned (.bool (isD c)) ∧ w' = w := by
  have h := c.toNat_lt
  have HE : Hid (isD c = (decide (48 ≤ c.toNat) && decide (c.toNat ≤ 57))) := rfl
  go_enter Tryz.func145, Tryz.ntmps145
  go_wp2
  all_goals go_ret
  all_goals refine ⟨ret_bool ?_, rfl⟩
  all_goals rw [HE.out, Bool.eq_iff_iff]
  all_goals simp
  all_goals omega
set_option maxHeartbeats 400000 in
theorem isLetter_any (c : UInt8) (w : World) : Calls Tryz.prog 148 #[.int .u8 c.toNat] w fun e w' => e = .returned (.bool (isL c)) ∧ w' = w := by
  have h := c.toNat_lt
  have HE : Hid (isL c = (decide (97 ≤ c.toNat) && decide (c.toNat ≤ 122))) := rfl
  go_enter Tryz.func148, Tryz.ntmps148
  go_wp2
  all_goals go_ret
  all_goals refine ⟨ret_bool ?_, rfl⟩
  all_goals rw [HE.out, Bool.eq_iff_iff]
  all_goals simp
  all_goals omega

set_option maxHeartbeats 1000000 in
theorem pastBlanks_any (l : List UInt8) (a : Nat) (w : World) (hl : l.length ≤ 1000) (ha : a ≤ l.length) : Calls Tryz.prog 101 #[S l, .int .i64 a] w fun e w' => e = .returned (.int .i64 (stop isB l a)) ∧ w' = w := by
  go_enter Tryz.func101, Tryz.ntmps101
  go_wp2_with fail
  go_loop [1] (fun i => ∃ j : Nat, a ≤ j ∧ j ≤ l.length ∧ i = .int .i64 j ∧ Hid (stop isB l a = stop isB l j)) (fun i => l.length - (intOf i).toNat)
  case atStart => exact ⟨a, by omega, by omega, rfl, rfl⟩
  case round =>
    obtain ⟨j, hkj, hj, rfl, HB⟩ := hrel
    by_cases hlt : j < l.length
    · go_wp2_with fail
      case roundEnd =>
        refine ⟨⟨j + 1, by omega, by omega, by go_num, ?_⟩, by simp [intOf]; omega⟩
        show _ = _; rw [HB.out]; exact stop_step isB l j hlt (b_yes ‹_›)
      case roundEnd =>
        refine ⟨⟨j + 1, by omega, by omega, by go_num, ?_⟩, by simp [intOf]; omega⟩
        show _ = _; rw [HB.out]; exact stop_step isB l j hlt (b_or ‹_›)
      go_ret
      refine ⟨ret_int ?_, rfl⟩
      rw [HB.out, stop_no isB l j hlt (b_and ‹_›)]
    · go_wp2_with fail
      go_ret
      refine ⟨ret_int ?_, rfl⟩
      rw [HB.out, stop_end isB l j (by omega)]

set_option maxHeartbeats 1000000 in
theorem run_digits (l : List UInt8) (w : World) (hl : l.length ≤ 1000) : Calls Tryz.prog 147 #[S l, .func (.func 145) #[] #[]] w fun e w' => e = .returned (.int .i64 (stop isD l 0)) ∧ w' = w := by
  go_enter Tryz.func147, Tryz.ntmps147
  go_wp2_with fail
  go_loop [5] (fun i => ∃ j : Nat, j ≤ l.length ∧ i = .int .i64 j ∧ Hid (stop isD l 0 = stop isD l j)) (fun i => l.length - (intOf i).toNat)
  case atStart => exact ⟨0, by omega, rfl, rfl⟩
  case round =>
    obtain ⟨j, hj, rfl, HB⟩ := hrel
    by_cases hlt : j < l.length
    · cases hd : isD l[j] with
      | true =>
        have HD : Hid _ := hd
        clear hd
        go_wp2_with fail
        refine (isDigit_any l[j] _).mono ?_
        rintro e w' ⟨rfl, rfl⟩
        rw [HD.out]
        go_wp2_with fail
        refine ⟨⟨j + 1, by omega, by go_num, ?_⟩, by simp [intOf]; omega⟩
        show _ = _; rw [HB.out]; exact stop_step isD l j hlt HD.out
      | false =>
        have HD : Hid _ := hd
        clear hd
        go_wp2_with fail
        refine (isDigit_any l[j] _).mono ?_
        rintro e w' ⟨rfl, rfl⟩
        rw [HD.out]
        go_wp2_with fail
        go_ret
        refine ⟨ret_int ?_, rfl⟩
        rw [HB.out, stop_no isD l j hlt HD.out]
    · go_wp2_with fail
      go_ret
      refine ⟨ret_int ?_, rfl⟩
      rw [HB.out, stop_end isD l j (by omega)]
set_option maxHeartbeats 1000000 in
theorem run_letters (l : List UInt8) (w : World) (hl : l.length ≤ 1000) : Calls Tryz.prog 147 #[S l, .func (.func 148) #[] #[]] w fun e w' => e = .returned (.int .i64 (stop isL l 0)) ∧ w' = w := by
  go_enter Tryz.func147, Tryz.ntmps147
  go_wp2_with fail
  go_loop [5] (fun i => ∃ j : Nat, j ≤ l.length ∧ i = .int .i64 j ∧ Hid (stop isL l 0 = stop isL l j)) (fun i => l.length - (intOf i).toNat)
  case atStart => exact ⟨0, by omega, rfl, rfl⟩
  case round =>
    obtain ⟨j, hj, rfl, HB⟩ := hrel
    by_cases hlt : j < l.length
    · cases hd : isL l[j] with
      | true =>
        have HD : Hid _ := hd
        clear hd
        go_wp2_with fail
        refine (isLetter_any l[j] _).mono ?_
        rintro e w' ⟨rfl, rfl⟩
        rw [HD.out]
        go_wp2_with fail
        refine ⟨⟨j + 1, by omega, by go_num, ?_⟩, by simp [intOf]; omega⟩
        show _ = _; rw [HB.out]; exact stop_step isL l j hlt HD.out
      | false =>
        have HD : Hid _ := hd
        clear hd
        go_wp2_with fail
        refine (isLetter_any l[j] _).mono ?_
        rintro e w' ⟨rfl, rfl⟩
        rw [HD.out]
        go_wp2_with fail
        go_ret
        refine ⟨ret_int ?_, rfl⟩
        rw [HB.out, stop_no isL l j hlt HD.out]
    · go_wp2_with fail
      go_ret
      refine ⟨ret_int ?_, rfl⟩
      rw [HB.out, stop_end isL l j (by omega)]
end Go.Proofs.YtfkdailfcmnjlaaGreatDoor

namespace Go.Proofs.YtfkdailfcmnjlaaGreatDoor
open Go Go.RowKit
set_option maxRecDepth 100000

/-- The kind that the program gives a word. -/
def kindOf (t : Tok) : Nat := if t.k = 110 then 1 else if t.k = 111 then 2 else if t.k = 101 then 0 else (idx spell t.text).toNat

theorem idx_first (l : List (List UInt8)) (s : List UInt8) (k : Nat) (hk : k < l.length) (h1 : ∀ q, q < k → l.getD q [] ≠ s) (h2 : l.getD k [] = s) : idx l s = k := by
  induction l generalizing k with
  | nil => simp at hk
  | cons x r ih =>
    unfold idx
    cases k with
    | zero => simp at h2; rw [h2]; simp
    | succ k =>
      have hx : (x == s) = false := by have := h1 0 (by omega); simpa using this
      have := ih k (by simpa using hk) (fun q hq => by have := h1 (q + 1) (by omega); simpa using this) (by simpa using h2)
      rw [hx, this]; simp; omega
theorem idx_mem {l : List (List UInt8)} {s : List UInt8} (h : 0 ≤ idx l s) : s ∈ l := by
  induction l with
  | nil => simp [idx] at h
  | cons x r ih =>
    unfold idx at h
    by_cases e : (x == s) = true
    · simp at e; simp [e]
    · rw [if_neg e] at h
      by_cases h2 : idx r s < 0
      · rw [if_pos h2] at h; omega
      · exact List.mem_cons_of_mem _ (ih (by omega))
theorem mem_idx {l : List (List UInt8)} {s : List UInt8} (h : s ∈ l) : 0 ≤ idx l s := by
  induction l with
  | nil => simp at h
  | cons x r ih =>
    unfold idx
    by_cases e : (x == s) = true
    · rw [if_pos e]; omega
    · rw [if_neg e]
      have : s ∈ r := by simp at h e; rcases h with h | h; exact absurd h.symm e; exact h
      have := ih this
      rw [if_neg (by omega)]; omega

/-- The keywords stand from the eleventh place on. -/
theorem kw_spell : spell.drop 11 = kOthers ++ kMembers ++ kFields := by decide
theorem isKw_iff (s : List UInt8) : isKw s = true ↔ s ∈ spell.drop 11 := by
  rw [kw_spell]
  unfold isKw
  simp only [Bool.or_eq_true, decide_eq_true_eq, List.mem_append]
  constructor
  · rintro ((h | h) | h)
    · exact .inl (.inr (idx_mem h))
    · exact .inr (idx_mem h)
    · exact .inl (.inl (idx_mem h))
  · rintro ((h | h) | h)
    · exact .inr (mem_idx h)
    · exact .inl (.inl (mem_idx h))
    · exact .inl (.inr (mem_idx h))

theorem letters_ne {s : List UInt8} (h0 : s ≠ []) (hl : ∀ c ∈ s, isL c = true) : ∀ q, q < 11 → spell.getD q [] ≠ s := by
  intro q hq e
  have hall : ∀ q, q < 11 → (spell.getD q []).all isL = true → spell.getD q [] = [] := by decide
  have := hall q hq (by rw [e]; exact List.all_eq_true.2 hl)
  rw [e] at this; exact h0 this

/-- What 'name' answers. -/
def nameV (s : List UInt8) : Value × Nat := if isKw s then (.agg #[.int .i64 (idx spell s), .int .i64 0, .int .i64 0, S []], s.length) else if s.length ≤ 8 then (.agg #[.int .i64 2, .int .i64 0, .int .i64 0, S s], s.length) else (.agg #[.int .i64 0, .int .i64 0, .int .i64 0, S []], 0)

set_option maxHeartbeats 2000000 in
theorem name_any (s : List UInt8) (w : World) (hS : Sp w) (hs : s.length ≤ 1000) (h0 : s ≠ []) (hl : ∀ c ∈ s, isL c = true) :
    Calls Tryz.prog 149 #[S s] w fun e w' => e = .returned (.tuple #[(nameV s).1, .int .i64 (nameV s).2]) ∧ Below w.heap.size w w' := by
  have hB := (Below.refl w.heap.size w).alloc (Nat.le_refl _) (.cells #[.int .i64 0, .int .i64 0, .int .i64 0, S []] 160)
  have hSp := hS.below hS.pos hB
  have HB : Hid _ := hB
  have HL : Hid _ := letters_ne h0 hl
  clear hB h0 hl hS
  go_enter Tryz.func149, Tryz.ntmps149
  go_wp2_with fail
  go_loop [4] (fun i => ∃ k : Nat, 11 ≤ k ∧ k ≤ 36 ∧ i = .int .i64 k ∧ Hid (∀ q, q < k → spell.getD q [] ≠ s)) (fun i => 36 - (intOf i).toNat)
  case atStart => exact ⟨11, by omega, by omega, rfl, HL.out⟩
  case round =>
    obtain ⟨k, hk1, hk2, rfl, HQ⟩ := hrel
    by_cases hlt : k < 36
    · cases he : (s == spell.getD k []) with
      | true =>
        have HE : Hid (spell.getD k [] = s) := by have : s = spell.getD k [] := by simpa using he
                                                  exact this.symm
        have hix : Hid (idx spell s = k) := idx_first spell s k (by exact hlt) HQ.out HE.out
        have hkw : Hid (isKw s = true) := (isKw_iff s).2 (by
          rw [← HE.out, List.getD_eq_getElem?_getD, List.getElem?_eq_getElem (by exact hlt)]
          exact List.mem_drop_iff_getElem.2 ⟨k - 11, by have : spell.length = 36 := rfl; omega, by simp only [Option.getD_some]; congr 1; omega⟩)
        clear he
        go_wp2_with fail
        refine (spelling_any k _ hSp hlt).mono ?_
        rintro e w' ⟨rfl, rfl⟩
        rw [HE.out]
        go_wp2_with fail
        exact bodyPost_ret (v := .tuple #[.agg #[.int .i64 k, .int .i64 0, .int .i64 0, S []], .int .i64 s.length]) (by simp [results, Tryz.results149, go_sem]) rfl ⟨by unfold nameV; rw [if_pos hkw.out, hix.out], (Below.refl _ _).alloc (Nat.le_refl _) _⟩
      | false =>
        have HE : Hid (spell.getD k [] ≠ s) := fun e => by rw [e] at he; simp at he
        have he' := he
        generalize hg : spell.getD k [] = sp at *
        have HG : Hid _ := hg
        clear he hg
        go_wp2_with fail
        refine (spelling_any k _ hSp hlt).mono ?_
        rintro e w' ⟨rfl, rfl⟩
        rw [HG.out]
        go_wp2_with fail
        refine ⟨⟨k + 1, by omega, by omega, by go_num, fun q hq => ?_⟩, by simp [intOf]; omega⟩
        by_cases e : q = k
        · subst e; rw [HG.out]; exact HE.out
        · exact HQ.out q (by omega)
    · have hkw : Hid (isKw s = false) := by
        show _ = _
        cases e : isKw s with
        | false => rfl
        | true =>
          obtain ⟨i, hi, hi2⟩ := List.mem_iff_getElem.1 ((isKw_iff s).1 e)
          have hsl : spell.length = 36 := rfl
          have hi' : i < 25 := by simp at hi; omega
          exact absurd (by rw [List.getElem_drop] at hi2; rw [List.getD_eq_getElem?_getD, List.getElem?_eq_getElem (by omega)]; exact hi2) (HQ.out (11 + i) (by omega))
      by_cases h8 : s.length ≤ 8
      · go_wp2_with fail
        exact bodyPost_ret (v := .tuple #[.agg #[.int .i64 2, .int .i64 0, .int .i64 0, S s], .int .i64 s.length]) (by simp [results, Tryz.results149, go_sem]) rfl ⟨by unfold nameV; rw [if_neg (by simp [hkw.out]), if_pos h8], (Below.refl _ _).alloc (Nat.le_refl _) _⟩
      · go_wp2_with fail
        exact bodyPost_ret (v := .tuple #[.agg #[.int .i64 0, .int .i64 0, .int .i64 0, S []], .int .i64 0]) (by simp [results, Tryz.results149, go_sem]) rfl ⟨by unfold nameV; rw [if_neg (by simp [hkw.out]), if_neg h8]; rfl, (Below.refl _ _).alloc (Nat.le_refl _) _⟩
end Go.Proofs.YtfkdailfcmnjlaaGreatDoor

namespace Go.Proofs.YtfkdailfcmnjlaaGreatDoor
open Go Go.RowKit
set_option maxRecDepth 100000

theorem take_prefix (s p : List UInt8) : (((ByteArray.mk s.toArray).extract 0 p.length).toList == p) = p.isPrefixOf s := by
  rw [cut_ex, ByteArray.toList_mk, Bool.eq_iff_iff, List.isPrefixOf_iff_prefix, List.prefix_iff_eq_take]
  simp only [cut, List.drop_zero, Nat.sub_zero, beq_iff_eq]
  exact eq_comm

set_option maxHeartbeats 1000000 in
theorem hasPrefix_any (s p : List UInt8) (w : World) (hs : s.length ≤ 1000) (hp : p.length ≤ 1000) : Calls Tryz.prog 209 #[S s, S p] w fun e w' => e = .returned (.bool (p.isPrefixOf s)) ∧ w' = w := by
  by_cases h : p.length ≤ s.length
  · go_enter Tryz.func209, Tryz.ntmps209
    go_wp2
    all_goals go_ret
    all_goals refine ⟨ret_bool ?_, rfl⟩
    all_goals exact take_prefix s p
  · have HE : Hid (p.isPrefixOf s = false) := by
      show _ = _
      rw [Bool.eq_false_iff]; intro e
      rw [List.isPrefixOf_iff_prefix] at e
      exact h e.length_le
    rw [HE.out]
    go_enter Tryz.func209, Tryz.ntmps209
    go_wp2
    all_goals go_ret
    all_goals refine ⟨ret_bool ?_, rfl⟩
    all_goals rfl

/-- The first kind of a sign, from one on, that a text begins with. -/
def signK (s : List UInt8) : Option Nat := (List.range' 3 8).find? (fun k => (spell.getD k []).isPrefixOf s)
theorem signK_yes {s : List UInt8} {k : Nat} (h3 : 3 ≤ k) (h11 : k < 11) (h1 : ∀ q, 3 ≤ q → q < k → (spell.getD q []).isPrefixOf s = false) (h2 : (spell.getD k []).isPrefixOf s = true) : signK s = some k := by
  unfold signK
  rw [List.find?_range'_eq_some]
  refine ⟨h2, by simp; omega, fun j hj hk => ?_⟩
  rw [h1 j hj hk]; rfl
theorem signK_no {s : List UInt8} (h1 : ∀ q, 3 ≤ q → q < 11 → (spell.getD q []).isPrefixOf s = false) : signK s = none := by
  unfold signK
  rw [List.find?_eq_none]
  intro x hx
  rw [List.mem_range'_1] at hx
  rw [h1 x (by omega) (by omega)]; simp
/-- What 'sign' answers. -/
def signV (s : List UInt8) : Value × Nat := match signK s with
  | some k => (.agg #[.int .i64 k, .int .i64 0, .int .i64 0, S []], (spell.getD k []).length)
  | none => (.agg #[.int .i64 0, .int .i64 0, .int .i64 0, S []], 0)
theorem spell_short : ∀ k, k < 36 → (spell.getD k []).length ≤ 1000 := by decide

set_option maxHeartbeats 2000000 in
theorem sign_any (s : List UInt8) (w : World) (hS : Sp w) (hs : s.length ≤ 1000) :
    Calls Tryz.prog 150 #[S s] w fun e w' => e = .returned (.tuple #[(signV s).1, .int .i64 (signV s).2]) ∧ Below w.heap.size w w' := by
  have hB := (Below.refl w.heap.size w).alloc (Nat.le_refl _) (.cells #[.int .i64 0, .int .i64 0, .int .i64 0, S []] 160)
  have hSp := hS.below hS.pos hB
  have HB : Hid _ := hB
  clear hB hS
  go_enter Tryz.func150, Tryz.ntmps150
  go_wp2_with fail
  go_loop [4] (fun i => ∃ k : Nat, 3 ≤ k ∧ k ≤ 11 ∧ i = .int .i64 k ∧ Hid (∀ q, 3 ≤ q → q < k → (spell.getD q []).isPrefixOf s = false)) (fun i => 11 - (intOf i).toNat)
  case atStart => exact ⟨3, by omega, by omega, rfl, fun q h1 h2 => by omega⟩
  case round =>
    obtain ⟨k, hk1, hk2, rfl, HQ⟩ := hrel
    by_cases hlt : k < 11
    · have hlen := spell_short k (by omega)
      cases he : (spell.getD k []).isPrefixOf s with
      | true =>
        have HV : Hid (signV s = (.agg #[.int .i64 k, .int .i64 0, .int .i64 0, S []], (spell.getD k []).length)) := by
          show _ = _; unfold signV; rw [signK_yes hk1 hlt HQ.out he]
        have HE : Hid _ := he
        clear he
        generalize hg : spell.getD k [] = sp at *
        have HG : Hid _ := hg
        clear hg
        go_wp2_with fail
        refine (spelling_any k _ hSp (by omega)).mono ?_
        rintro e w' ⟨rfl, rfl⟩
        rw [HG.out]
        go_wp2_with fail
        refine (hasPrefix_any s sp _ hs hlen).mono ?_
        rintro e w' ⟨rfl, rfl⟩
        rw [HE.out]
        go_wp2_with fail
        refine (spelling_any k _ hSp (by omega)).mono ?_
        rintro e w' ⟨rfl, rfl⟩
        rw [HG.out]
        go_wp2_with fail
        exact bodyPost_ret (v := .tuple #[.agg #[.int .i64 k, .int .i64 0, .int .i64 0, S []], .int .i64 sp.length]) (by simp [results, Tryz.results150, go_sem]) rfl ⟨by rw [HV.out], (Below.refl _ _).alloc (Nat.le_refl _) _⟩
      | false =>
        have HE : Hid _ := he
        have HE2 : Hid _ := he
        clear he
        generalize hg : spell.getD k [] = sp at hlen HE
        have HG : Hid _ := hg
        clear hg
        go_wp2_with fail
        refine (spelling_any k _ hSp (by omega)).mono ?_
        rintro e w' ⟨rfl, rfl⟩
        rw [HG.out]
        go_wp2_with fail
        refine (hasPrefix_any s sp _ hs hlen).mono ?_
        rintro e w' ⟨rfl, rfl⟩
        rw [HE.out]
        go_wp2_with fail
        refine ⟨⟨k + 1, by omega, by omega, by go_num, fun q h3 hq => ?_⟩, by simp [intOf]; omega⟩
        by_cases e : q = k
        · rw [e]; exact HE2.out
        · exact HQ.out q h3 (by omega)
    · have HV : Hid (signV s = (.agg #[.int .i64 0, .int .i64 0, .int .i64 0, S []], 0)) := by
        show _ = _; unfold signV; rw [signK_no (fun q h1 h2 => HQ.out q h1 (by omega))]
      go_wp2_with fail
      exact bodyPost_ret (v := .tuple #[.agg #[.int .i64 0, .int .i64 0, .int .i64 0, S []], .int .i64 0]) (by simp [results, Tryz.results150, go_sem]) rfl ⟨by rw [HV.out]; rfl, (Below.refl _ _).alloc (Nat.le_refl _) _⟩
end Go.Proofs.YtfkdailfcmnjlaaGreatDoor

namespace Go.Proofs.YtfkdailfcmnjlaaGreatDoor
open Go Go.RowKit
set_option maxRecDepth 100000

theorem dv_ge_acc (n : Nat) (l : List UInt8) : n ≤ dv n l := by
  rw [dv_acc]
  have : 1 ≤ 10 ^ l.length := Nat.pos_of_ne_zero (by simp)
  calc n = n * 1 := by omega
    _ ≤ n * 10 ^ l.length := Nat.mul_le_mul_left n this
    _ ≤ _ := by omega
theorem parseUintM_digits (l : List UInt8) : ∀ acc : Nat, (∀ c ∈ l, isD c = true) → acc ≤ 18446744073709551615 → Lib.parseUintM 18446744073709551615 acc l = if 18446744073709551615 < dv acc l then .range else .ok (dv acc l) := by
  induction l with
  | nil => intro acc _ ha; unfold Lib.parseUintM; rw [if_neg (by show ¬ _ < dv acc []; unfold dv; simp; omega)]; rfl
  | cons c r ih =>
    intro acc h ha
    have hc := isD_le (h c (by simp))
    unfold Lib.parseUintM
    rw [if_pos hc, dv_cons]
    have hge := dv_ge_acc (acc * 10 + (c.toNat - 48)) r
    by_cases h1 : 1844674407370955162 ≤ acc
    · rw [if_pos h1, if_pos (by omega)]
    · rw [if_neg h1]
      by_cases h2 : 18446744073709551615 < acc * 10 + (c.toNat - 48)
      · rw [if_pos h2, if_pos (by omega)]
      · rw [if_neg h2]
        exact ih _ (fun x hx => h x (by simp [hx])) (by omega)
theorem parse_digits (l : List UInt8) (h0 : l ≠ []) (h : ∀ c ∈ l, isD c = true) : Lib.parseIntB 64 l = if big l then .range else .ok ((decVal l : Nat) : Int) := by
  cases l with
  | nil => exact absurd rfl h0
  | cons c r =>
    have hc := isD_le (h c (by simp))
    rw [Lib.parseIntB_plain 64 c r (by omega) (by omega)]
    unfold Lib.parseUintB
    rw [if_neg h0, show (2 : Nat) ^ 64 - 1 = 18446744073709551615 from rfl, parseUintM_digits _ 0 h (by omega), show (2 : Nat) ^ (64 - 1) = 9223372036854775808 from rfl]
    have hd : decVal (c :: r) = dv 0 (c :: r) := rfl
    unfold big
    rw [hd]
    by_cases h1 : 18446744073709551615 < dv 0 (c :: r)
    · rw [if_pos h1, if_pos (by simp; omega)]; rfl
    · rw [if_neg h1]
      unfold Lib.signlessC
      by_cases h2 : 9223372036854775807 < dv 0 (c :: r)
      · simp only []
        rw [if_pos (by omega), if_pos (by simpa using h2)]
      · simp only []
        rw [if_neg (by omega), if_neg (by simpa using h2)]
/-- What 'number' answers. -/
def numV (s : List UInt8) : Value × Nat := if big s then (.agg #[.int .i64 0, .int .i64 0, .int .i64 0, S []], 0) else (.agg #[.int .i64 1, .int .i64 0, .int .i64 (decVal s), S []], s.length)
end Go.Proofs.YtfkdailfcmnjlaaGreatDoor

namespace Go.Proofs.YtfkdailfcmnjlaaGreatDoor
open Go Go.RowKit
set_option maxRecDepth 100000
theorem parseInt_ok (s : ByteArray) (hmax : s.size ≤ 9223372036854775806) (v : Int) (h : Lib.parseIntB 64 s.data.toList = .ok v) (w : World) :
    Calls Tryz.prog 208 #[.string s, .int .i64 10, .int .i64 64] w fun e w' => e = .returned (.tuple #[.int .i64 v, .nilIface]) ∧ (w' = w ∨ ∃ t, w' = Lib.bytesWorld w 5 t) := Any.strconv_ParseInt_10_at64_ok laysPI s hmax v h w
theorem parseInt_range (s : ByteArray) (hlim : s.size ≤ 281474976710656) (h : Lib.parseIntB 64 s.data.toList = .range) (ev : Value) (w : World) (hv : w.cell? ⟨4, 0, none⟩ = some ev) (hev : ev = .nilIface ∨ ∃ te pe, ev = .iface te pe) :
    Calls Tryz.prog 208 #[.string s, .int .i64 10, .int .i64 64] w fun e w' => ∃ N, e = .returned (.tuple #[.int .i64 (Lib.intSat 64 s.data.toList), .iface 346 (.pointer (some ⟨N, 0, none⟩))]) ∧ w.heap.size ≤ N ∧ w'.heap[N]? = some (.cells #[.string ⟨#[80, 97, 114, 115, 101, 73, 110, 116]⟩, .string s, ev] 357 (0, 0)) ∧ Below w.heap.size w w' := Any.strconv_ParseInt_10_at64_range laysPI s hlim h ev w hv hev

/-- What the program's words need of memory: the spellings, and the library's ErrRange. -/
structure Wd (w : World) : Prop where
  sp : Sp w
  er : ∃ ev, w.cell? ⟨4, 0, none⟩ = some ev ∧ (ev = .nilIface ∨ ∃ te pe, ev = .iface te pe)
theorem Wd.pos {w : World} (h : Wd w) : 0 < w.heap.size := h.sp.pos
theorem Wd.below {w w' : World} (h : Wd w) (hb : Below w.heap.size w w') : Wd w' := by
  refine ⟨h.sp.below h.pos hb, ?_⟩
  obtain ⟨ev, h1, h2⟩ := h.er
  exact ⟨ev, by rw [hb.cell (p := ⟨4, 0, none⟩) (World.block_lt_of_cell? w _ h1)]; exact h1, h2⟩

/-- A variable of type Word. -/
def wvObj (k a n : Int) (s : List UInt8) : Obj := .cells #[.int .i64 k, .int .i64 a, .int .i64 n, S s] 160 (0, 0)
theorem wv_cells {w : World} {b : Nat} {k a n : Int} {s : List UInt8} (h : w.heap[b]? = some (wvObj k a n s)) : (w.cell? ⟨b, 0, none⟩ = some (.int .i64 k) ∧ w.cell? ⟨b, 1, none⟩ = some (.int .i64 a) ∧ w.cell? ⟨b, 2, none⟩ = some (.int .i64 n) ∧ w.cell? ⟨b, 3, none⟩ = some (S s)) ∧ ∀ j, w.frozen? ⟨b, j, none⟩ = false := by
  have hc := fun j => cell_of_row w b j _ _ _ h
  exact ⟨⟨hc 0, hc 1, hc 2, hc 3⟩, fun j => by simp [World.frozen?, h, wvObj]⟩

set_option maxHeartbeats 2000000 in
theorem number_any (s : List UInt8) (w : World) (hW : Wd w) (hs : s.length ≤ 1000) (h0 : s ≠ []) (hl : ∀ c ∈ s, isD c = true) :
    Calls Tryz.prog 146 #[S s] w fun e w' => e = .returned (.tuple #[(numV s).1, .int .i64 (numV s).2]) ∧ Below w.heap.size w w' := by
  have hp := parse_digits s h0 hl
  have hsz : (ByteArray.mk s.toArray).size = s.length := by simp [ByteArray.size]
  have HA := (Below.refl w.heap.size w).alloc (Nat.le_refl _) (wvObj 0 0 0 [])
  have hnew : (w.alloc (wvObj 0 0 0 [])).heap[w.heap.size]? = some (wvObj 0 0 0 []) := heap_alloc_new w _
  have hsize : w.heap.size < (w.alloc (wvObj 0 0 0 [])).heap.size := by simp
  have hW2 := hW.below HA
  cases hb : big s with
  | true =>
    rw [hb, if_pos rfl] at hp
    have HV : Hid (numV s = (.agg #[.int .i64 0, .int .i64 0, .int .i64 0, S []], 0)) := by show _ = _; unfold numV; rw [if_pos hb]
    clear hb hl h0
    obtain ⟨ev, hv, hev⟩ := hW2.er
    have HI := parseInt_range ⟨s.toArray⟩ (by omega) (by simpa using hp) ev _ hv hev
    clear hv hev hp hW hW2
    have HA' : Hid _ := HA
    have hnew' : Hid _ := hnew
    have hsize' : Hid _ := hsize
    clear HA hnew hsize hsz
    go_enter Tryz.func146, Tryz.ntmps146
    go_wp2_with fail
    refine HI.mono ?_
    rintro e w' ⟨n, rfl, hn, hn2, hbl⟩
    have hat : w'.heap[w.heap.size]? = some (wvObj 0 0 0 []) := by rw [hbl.block _ hsize'.out]; exact hnew'.out
    have HB : Hid (Below w.heap.size w w') := HA'.out.trans (hbl.mono (Nat.le_of_lt hsize'.out))
    obtain ⟨⟨c0, c1, c2, c3⟩, cf⟩ := wv_cells hat
    clear HI hn2 hat hbl hn HA' hnew' hsize'
    generalize hn0 : w.heap.size = nb at c0 c1 c2 c3 cf HB ⊢
    have HN : Hid _ := hn0
    clear hn0
    go_wp2_with fail
    have hge : w.heap.size ≤ nb := Nat.le_of_eq HN.out
    exact bodyPost_ret (v := .tuple #[.agg #[.int .i64 0, .int .i64 0, .int .i64 0, S []], .int .i64 0]) (by simp [results, Tryz.results146, go_sem, c0, c1, c2, c3, cf]) rfl ⟨by rw [HV.out]; rfl, (((((HB.out.mono hge).setCell hge _).setCell hge _).setCell hge _).setCell hge _)⟩
  | false =>
    rw [hb, if_neg (by simp)] at hp
    have HV : Hid (numV s = (.agg #[.int .i64 1, .int .i64 0, .int .i64 (decVal s), S []], s.length)) := by show _ = _; unfold numV; rw [if_neg (by simp [hb])]
    clear hb hl h0
    have HI := parseInt_ok ⟨s.toArray⟩ (by omega) _ (by simpa using hp) (w.alloc (wvObj 0 0 0 []))
    clear hp hW hW2
    have HA' : Hid _ := HA
    have hnew' : Hid _ := hnew
    have hsize' : Hid _ := hsize
    clear HA hnew hsize hsz
    go_enter Tryz.func146, Tryz.ntmps146
    go_wp2_with fail
    refine HI.mono ?_
    rintro e w' ⟨rfl, hww⟩
    have hbl : Below (w.alloc (wvObj 0 0 0 [])).heap.size (w.alloc (wvObj 0 0 0 [])) w' := by
      rcases hww with rfl | ⟨t, rfl⟩
      · exact Below.refl _ _
      · exact Lib.bytesWorld_below _ _ _
    have hat : w'.heap[w.heap.size]? = some (wvObj 0 0 0 []) := by rw [hbl.block _ hsize'.out]; exact hnew'.out
    have HB : Hid (Below w.heap.size w w') := HA'.out.trans (hbl.mono (Nat.le_of_lt hsize'.out))
    obtain ⟨⟨c0, c1, c2, c3⟩, cf⟩ := wv_cells hat
    clear HI hat hbl hww HA' hnew' hsize'
    generalize hn0 : w.heap.size = nb at c0 c1 c2 c3 cf HB ⊢
    have HN : Hid _ := hn0
    clear hn0
    go_wp2_with fail
    have hge : w.heap.size ≤ nb := Nat.le_of_eq HN.out
    exact bodyPost_ret (v := .tuple #[.agg #[.int .i64 1, .int .i64 0, .int .i64 (decVal s), S []], .int .i64 s.length]) (by simp [results, Tryz.results146, go_sem, c0, c1, c2, c3, cf]) rfl ⟨by rw [HV.out], (((((HB.out.mono hge).setCell hge _).setCell hge _).setCell hge _).setCell hge _)⟩
end Go.Proofs.YtfkdailfcmnjlaaGreatDoor
