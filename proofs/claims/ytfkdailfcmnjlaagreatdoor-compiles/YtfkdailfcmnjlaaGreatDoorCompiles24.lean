/-
  What is known of a policy's parts and items as the plain reader makes them. Compiling: trees of conditions, what they tell, their types; the passes that rewrite them, as plain Lean functions. Compiling: the passes leave what a condition tells, and its type. What the program makes of two values. The document's Fields.
-/
import Derived.Test.YtfkdailfcmnjlaaGreatDoorCompiles01
import Derived.Test.YtfkdailfcmnjlaaGreatDoorCompiles02
import Derived.Test.YtfkdailfcmnjlaaGreatDoorCompiles04
import Derived.Test.YtfkdailfcmnjlaaGreatDoorCompiles05
import Derived.Test.YtfkdailfcmnjlaaGreatDoorCompiles06
import Derived.Test.YtfkdailfcmnjlaaGreatDoorCompiles07
import Derived.Test.YtfkdailfcmnjlaaGreatDoorCompiles08
import Derived.Test.YtfkdailfcmnjlaaGreatDoorCompiles09
import Derived.Test.YtfkdailfcmnjlaaGreatDoorCompiles10
import Derived.Test.YtfkdailfcmnjlaaGreatDoorCompiles11
import Derived.Test.YtfkdailfcmnjlaaGreatDoorCompiles12
import Derived.Test.YtfkdailfcmnjlaaGreatDoorCompiles13
import Derived.Test.YtfkdailfcmnjlaaGreatDoorCompiles14
import Derived.Test.YtfkdailfcmnjlaaGreatDoorCompiles15
import Derived.Test.YtfkdailfcmnjlaaGreatDoorCompiles16
import Derived.Test.YtfkdailfcmnjlaaGreatDoorCompiles17
import Derived.Test.YtfkdailfcmnjlaaGreatDoorCompiles18
import Derived.Test.YtfkdailfcmnjlaaGreatDoorCompiles19
import Derived.Test.YtfkdailfcmnjlaaGreatDoorCompiles20
import Derived.Test.YtfkdailfcmnjlaaGreatDoorCompiles21
import Derived.Test.YtfkdailfcmnjlaaGreatDoorCompiles22
import Derived.Test.YtfkdailfcmnjlaaGreatDoorLays
import Derived.WalkKit
import Derived.Deep.QuietTactic
import Derived.BigQuiet
import Derived.WalkSpells
import GoSem.Op.String
import Derived.Deep.AppendLies
import Derived.Deep.RegionHeld3
import Derived.Deep.DrawnRows
import Derived.Deep.RegionHeldLaw
import Derived.Deep.RegionLaw
import Derived.Lib.ParseIntBCases
set_option linter.unusedVariables false
set_option linter.unusedSimpArgs false
namespace Go.Proofs.YtfkdailfcmnjlaaGreatDoor

theorem P_size (f : Nat) : ∀ (tag : Nat) (ts : List Tok) (i : Nat) (L : List Pt) (x : Nat) (r : Rd), P f tag ts i L x = some r → r.ok = true → (tag ≤ 6 ∨ tag = 10 ∨ tag = 11 ∨ tag = 13 ∨ tag = 14) → r.L.length + i ≤ L.length + r.i := by
  induction f with
  | zero => intro tag ts i L x r h; rw [P] at h; simp at h
  | succ f ih =>
    intro tag ts i L x r h ok ht
    by_cases h6 : tag = 6
    · subst h6
      by_cases hw : isW (tokAt ts i) wIf = true
      · obtain ⟨ra, rb, rc, hPa, hNb, hNc, hrc, hri, hrp⟩ := if_split h hw
        rw [hrc] at ok
        obtain ⟨oka, okb, rfl⟩ := hrp ok
        have ka := ih 6 ts (i + 1) L 0 ra hPa oka (by omega)
        unfold Nx at hNb hNc
        have hwb : isW (tokAt ts ra.i) wThen = true := by
          cases e : isW (tokAt ts ra.i) wThen with
          | true => rfl
          | false => rw [if_neg (by simp [e])] at hNb; rw [hNb.1] at okb; simp at okb
        have hwc : isW (tokAt ts rb.i) wElse = true := by
          cases e : isW (tokAt ts rb.i) wElse with
          | true => rfl
          | false => rw [if_neg (by simp [e])] at hNc; rw [hNc.1] at ok; simp at ok
        rw [if_pos ⟨oka, hwb⟩] at hNb
        rw [if_pos ⟨okb, hwc⟩] at hNc
        have kb := ih 6 ts (ra.i + 1) ra.L 0 rb hNb okb (by omega)
        have kc := ih 6 ts (rb.i + 1) rb.L 0 rc hNc ok (by omega)
        simp [put]; omega
      · exact ih 0 ts i L 0 r (if_not h hw) ok (by omega)
    · by_cases h5 : tag = 5
      · subst h5
        by_cases hw : isW (tokAt ts i) [40] = true
        · obtain ⟨ra, hPa, hr⟩ := one_open h hw
          rcases hr with ⟨oka, hwa, rfl⟩ | ⟨_, hr, _⟩
          · have ka := ih 6 ts (i + 1) L 0 ra hPa oka (by omega)
            simp; omega
          · rw [hr] at ok; simp at ok
        · rcases one_alone h hw with ⟨ha, rfl⟩ | ⟨_, rfl⟩
          · simp; omega
          · simp at ok
      · by_cases h2 : tag = 2
        · subst h2
          by_cases hw : isW (tokAt ts i) wNot = true
          · obtain ⟨ra, hPa, hra, hri, hrp⟩ := not_yes h hw
            rw [hra] at ok
            have hrp := hrp ok
            subst hrp
            have ka := ih 2 ts (i + 1) L 0 ra hPa ok (by omega)
            simp [put]; omega
          · exact ih 3 ts i L 0 r (not_no h hw) ok (by omega)
        · by_cases h10 : tag < 10
          · have hn : isChain tag := by unfold isChain; omega
            obtain ⟨ra, hPa, hr⟩ := chain_split hn h
            rcases hr with ⟨oka, hr⟩ | ⟨no, rfl⟩
            · unfold isChain at hn
              have ka := ih (tag + 1) ts i L 0 ra hPa oka (by omega)
              have kb := ih (10 + tag) ts ra.i ra.L ra.top r hr ok (by omega)
              omega
            · rw [no] at ok; simp at ok
          · obtain ⟨n, rfl⟩ : ∃ n, tag = 10 + n := ⟨tag - 10, by omega⟩
            have hn : isChain n := by unfold isChain; omega
            have hn' := hn
            unfold isChain at hn'
            cases hj : joins n (tokAt ts i) with
            | false =>
              have := loop_no hn h hj
              subst this
              simp
            | true =>
              obtain ⟨rb, hPb, hr⟩ := loop_yes hn h hj
              rcases hr with ⟨no, rfl⟩ | ⟨okb, hr⟩
              · rw [no] at ok; simp at ok
              · have kb := ih (n + 1) ts (i + 1) L 0 rb hPb okb (by omega)
                rcases hr with ⟨h3, rfl⟩ | ⟨h3, hr⟩
                · simp [put]; omega
                · have kc := ih (10 + n) ts rb.i _ _ r hr ok (by omega)
                  simp at kc; omega

theorem item_tree {F : Nat} {ts : List Tok} (hS : Sorted ts) {i : Nat} {L : List Pt} {r : ItR} (hO : OwnUp ts L i) (h : itemP F ts i L = some r) (ok : r.ok = true) :
    i < r.i ∧ (∃ new, r.L = L ++ new) ∧ Tree r.L L.length r.it.top ∧ r.it.top + 1 = r.it.parts ∧ r.it.parts = r.L.length ∧ OwnUp ts r.L r.i ∧ r.L.length + i ≤ L.length + r.i := by
  have tail : ∀ (j : Nat) (x : Itm), i < j → itemTail F ts j L x = some r → i < r.i ∧ (∃ new, r.L = L ++ new) ∧ Tree r.L L.length r.it.top ∧ r.it.top + 1 = r.it.parts ∧ r.it.parts = r.L.length ∧ OwnUp ts r.L r.i ∧ r.L.length + i ≤ L.length + r.i := by
    intro j x hj hr
    obtain ⟨a, ha, hres⟩ := tail_parts hr
    rcases hres with ⟨oka, hw, rfl⟩ | ⟨_, hr1, _⟩
    · have f1 := (P_fwd F 6 ts j L 0 a ha oka (by omega)).1
      obtain ⟨t1, t2, t3⟩ := P_tree hS F 6 j L 0 L.length a ha oka (by omega) (hO.mono (by omega)) (fun _ => rfl) (by omega)
      have t4 := P_size F 6 ts j L 0 a ha oka (by omega)
      exact ⟨by simp; omega, P_new ha oka (by omega), t2, t1, rfl, t3.mono (by simp), by simp; omega⟩
    · rw [hr1] at ok; simp at ok
  unfold itemP at h
  split at h
  · split at h
    · split at h
      · exact tail _ _ (by omega) h
      · simp [itFail] at h; subst h; simp at ok
    · simp [itFail] at h; subst h; simp at ok
  · split at h
    · split at h
      · exact tail _ _ (by omega) h
      · simp [itFail] at h; subst h; simp at ok
    · simp [itFail] at h; subst h; simp at ok

theorem item_end {F : Nat} {ts : List Tok} {i : Nat} {L : List Pt} {r : ItR} (h : itemP F ts i L = some r) (ok : r.ok = true) : r.i ≤ ts.length := by
  have tail : ∀ (j : Nat) (x : Itm), itemTail F ts j L x = some r → r.i ≤ ts.length := by
    intro j x hr
    obtain ⟨a, ha, hres⟩ := tail_parts hr
    rcases hres with ⟨oka, hw, rfl⟩ | ⟨_, hr1, _⟩
    · have := (inside (ts := ts) (i := a.i) fun e => by rw [e, noTok_isW] at hw; simp at hw).1
      simp only []; omega
    · rw [hr1] at ok; simp at ok
  unfold itemP at h
  split at h
  · split at h
    · split at h
      · exact tail _ _ h
      · simp [itFail] at h; subst h; simp at ok
    · simp [itFail] at h; subst h; simp at ok
  · split at h
    · split at h
      · exact tail _ _ h
      · simp [itFail] at h; subst h; simp at ok
    · simp [itFail] at h; subst h; simp at ok
theorem TreesAt.snoc {L : List Pt} {xs : List Itm} {fr : Nat} (h : TreesAt L xs fr) (new : List Pt) (x : Itm) (h1 : Tree (L ++ new) L.length x.top) (h2 : x.top + 1 = x.parts) (h3 : x.parts = (L ++ new).length) : TreesAt (L ++ new) (xs ++ [x]) fr := by
  induction xs generalizing fr with
  | nil =>
    have : fr = L.length := h
    subst this
    exact ⟨h1, h2, h3⟩
  | cons y r ih =>
    obtain ⟨a, b, c⟩ := h
    exact ⟨a.more ⟨new, rfl⟩, b, ih c⟩

theorem parse_trees {F : Nat} {ts : List Tok} (hS : Sorted ts) (g : Nat) : ∀ (i : Nat) (L : List Pt) (xs : List Itm) (R : AllR), TreesAt L xs 0 → OwnUp ts L i → L.length ≤ i → i ≤ ts.length → parseAll F ts g i L xs = some R → R.ok = true → TreesAt R.L R.xs 0 ∧ OwnUp ts R.L R.i ∧ R.L.length ≤ R.i ∧ R.i ≤ ts.length := by
  induction g with
  | zero => intro i L xs R _ _ _ _ h; rw [parseAll] at h; simp at h
  | succ g ih =>
    intro i L xs R hT hO hl hi h ok
    by_cases hk : (tokAt ts i).k = 101
    · have := parse_end h hk; subst this; exact ⟨hT, hO, hl, hi⟩
    · rw [parseAll, if_neg hk] at h
      cases hr : itemP F ts i L with
      | none => rw [hr] at h; simp at h
      | some r =>
        rw [hr] at h
        simp only at h
        by_cases okr : r.ok = true
        · rw [if_pos okr] at h
          obtain ⟨k1, ⟨new, e⟩, k2, k3, k4, k5, k6⟩ := item_tree hS hO hr okr
          have hri : r.i ≤ ts.length := item_end hr okr
          rw [e] at k2 k4 k5 k6 h
          exact ih r.i (L ++ new) (xs ++ [r.it]) R (hT.snoc new r.it k2 k3 k4) k5 (by omega) hri h ok
        · rw [if_neg okr] at h; simp at h; subst h; simp at ok
end Go.Proofs.YtfkdailfcmnjlaaGreatDoor

namespace Go.Proofs.YtfkdailfcmnjlaaGreatDoor
open Go Go.RowKit
set_option maxRecDepth 100000

/-- A condition as a tree: a word's kind, its number, which let it names; the parts under it. -/
structure Tr where
  k : Nat
  n : Int
  l : Int
  kids : List Tr
def noTr : Tr := ⟨0, 0, 0, []⟩
def Tr.kid (t : Tr) (j : Nat) : Tr := t.kids.getD j noTr
/-- The kinds of words that stand alone; that stand over two. -/
def leafK (k : Nat) : Prop := k = 1 ∨ k = 2 ∨ (20 ≤ k ∧ k ≤ 35)
def twoK (k : Nat) : Prop := k = 6 ∨ k = 7 ∨ k = 8 ∨ k = 9 ∨ k = 10 ∨ k = 17 ∨ k = 18
def ShapeT (t : Tr) : Prop := (leafK t.k ∧ t.kids = [] ∧ (t.k = 1 → In64 t.n) ∧ (t.k = 2 → 0 ≤ t.l)) ∨ (t.k = 19 ∧ ∃ a, t.kids = [a]) ∨ (t.k = 14 ∧ ∃ a b c, t.kids = [a, b, c]) ∨ (twoK t.k ∧ ∃ a b, t.kids = [a, b])
/-- A tree at most so deep. -/
def WfT : Nat → Tr → Prop
  | 0, _ => False
  | d + 1, t => ShapeT t ∧ ∀ c ∈ t.kids, WfT d c
/-- The type of a word; of a part, by those under it. -/
def wordTy (lt : List Nat) (t : Tr) : Nat := if t.k = 1 then 1 else if t.k = 2 then lt.getD t.l.toNat 0 else if 27 ≤ t.k then fieldTy (t.k - 27) else if 22 ≤ t.k then 3 else 2
def overTy (k : Nat) : List Nat → Nat
  | [a] => if a = 2 then 2 else 0
  | [a, b] => if k = 6 ∨ k = 7 then (if a = 1 ∧ b = 1 then 1 else 0) else if k = 9 ∨ k = 10 then (if a = 1 ∧ b = 1 then 2 else 0) else if k = 8 then (if a = b ∧ a ≠ 0 then 2 else 0) else (if a = 2 ∧ b = 2 then 2 else 0)
  | [a, b, c] => if a = 2 ∧ b = c then b else 0
  | _ => 0
def tyTr (lt : List Nat) : Nat → Tr → Nat
  | 0, _ => 0
  | d + 1, t => if t.kids = [] then wordTy lt t else overTy t.k (t.kids.map (tyTr lt d))
/-- What a word tells; what a part tells. -/
def kindV (fl : List Int) (k : Nat) : Int := if 27 ≤ k then fl.getD (k - 27) 0 else if 22 ≤ k then ((k - 22 : Nat) : Int) else truthI (decide (k = 20))
def wordT (lv fl : List Int) (t : Tr) : Int := if t.k = 1 then t.n else if t.k = 2 then lv.getD t.l.toNat 0 else kindV fl t.k
def two2 (k : Nat) (a b : Int) : Int :=
  if k = 6 then clampI (a + b) else if k = 7 then clampI (a - b) else if k = 8 then truthI (a == b) else if k = 10 then truthI (decide (a < b))
  else if k = 9 then truthI (decide (a ≤ b)) else if k = 18 then truthI (a == 1 && b == 1) else truthI (a == 1 || b == 1)
def overT (k : Nat) (w : Int) : List Int → Int
  | [] => w
  | [a] => 1 - a
  | [a, b] => two2 k a b
  | a :: b :: c :: _ => if a = 1 then b else c
def evT (lv fl : List Int) : Nat → Tr → Int
  | 0, _ => 0
  | d + 1, t => overT t.k (wordT lv fl t) (t.kids.map (evT lv fl d))
/-- How many parts. -/
def cntT : Nat → Tr → Nat
  | 0, _ => 0
  | d + 1, t => 1 + (t.kids.map (cntT d)).sum

theorem WfT.up {d : Nat} : ∀ {t : Tr}, WfT d t → ∀ {e : Nat}, d ≤ e → WfT e t := by
  induction d with
  | zero => intro t h; exact h.elim
  | succ d ih =>
    intro t h e he
    obtain ⟨e, rfl⟩ : ∃ q, e = q + 1 := ⟨e - 1, by omega⟩
    exact ⟨h.1, fun c hc => ih (h.2 c hc) (by omega)⟩
theorem evT_up {lv fl : List Int} {d : Nat} : ∀ {t : Tr}, WfT d t → ∀ {e : Nat}, d ≤ e → evT lv fl e t = evT lv fl d t := by
  induction d with
  | zero => intro t h; exact h.elim
  | succ d ih =>
    intro t h e he
    obtain ⟨e, rfl⟩ : ∃ q, e = q + 1 := ⟨e - 1, by omega⟩
    rw [evT, evT, List.map_congr_left fun c hc => ih (h.2 c hc) (by omega)]
theorem tyTr_up {lt : List Nat} {d : Nat} : ∀ {t : Tr}, WfT d t → ∀ {e : Nat}, d ≤ e → tyTr lt e t = tyTr lt d t := by
  induction d with
  | zero => intro t h; exact h.elim
  | succ d ih =>
    intro t h e he
    obtain ⟨e, rfl⟩ : ∃ q, e = q + 1 := ⟨e - 1, by omega⟩
    rw [tyTr, tyTr, List.map_congr_left fun c hc => ih (h.2 c hc) (by omega)]
theorem cntT_up {d : Nat} : ∀ {t : Tr}, WfT d t → ∀ {e : Nat}, d ≤ e → cntT e t = cntT d t := by
  induction d with
  | zero => intro t h; exact h.elim
  | succ d ih =>
    intro t h e he
    obtain ⟨e, rfl⟩ : ∃ q, e = q + 1 := ⟨e - 1, by omega⟩
    rw [cntT, cntT, List.map_congr_left fun c hc => ih (h.2 c hc) (by omega)]
theorem two2_has (k t : Nat) (a b : Int) (h : k = 6 ∨ k = 7 → t ≠ 2) : HasT t (two2 k a b) := by
  unfold two2
  by_cases h7 : k = 6
  · rw [if_pos h7]; exact ⟨clamp_in _, fun e => absurd e (h (.inl h7))⟩
  rw [if_neg h7]
  by_cases h8 : k = 7
  · rw [if_pos h8]; exact ⟨clamp_in _, fun e => absurd e (h (.inr h8))⟩
  rw [if_neg h8]
  (repeat' split) <;> exact hasT_truth _ _
/-- The lets' values have their types. -/
def LetsT (lt : List Nat) (lv : List Int) : Prop := ∀ i, lt.getD i 0 ≠ 0 → HasT (lt.getD i 0) (lv.getD i 0)
theorem word_hasT {lt : List Nat} {lv fl : List Int} (hV : LetsT lt lv) (hF : FieldsT fl) {t : Tr} (hs : leafK t.k) (hn : t.k = 1 → In64 t.n) (hty : wordTy lt t ≠ 0) : HasT (wordTy lt t) (wordT lv fl t) := by
  unfold wordTy wordT kindV at *
  by_cases h1 : t.k = 1
  · rw [if_pos h1, if_pos h1]; exact ⟨hn h1, fun e => by simp at e⟩
  rw [if_neg h1] at hty ⊢
  rw [if_neg h1]
  by_cases h2 : t.k = 2
  · rw [if_pos h2] at hty ⊢
    rw [if_pos h2]; exact hV _ hty
  rw [if_neg h2, if_neg h2]
  by_cases h3 : 27 ≤ t.k
  · rw [if_pos h3, if_pos h3]
    unfold leafK at hs
    exact hF _ (by omega)
  rw [if_neg h3, if_neg h3]
  by_cases h4 : 22 ≤ t.k
  · rw [if_pos h4, if_pos h4]
    exact ⟨by unfold In64; omega, fun e => by simp at e⟩
  rw [if_neg h4, if_neg h4]; exact hasT_truth _ _
/-- A tree of a type tells a value of it. -/
theorem ev_has {lt : List Nat} {lv fl : List Int} (hV : LetsT lt lv) (hF : FieldsT fl) {d : Nat} : ∀ {t : Tr}, WfT d t → tyTr lt d t ≠ 0 → HasT (tyTr lt d t) (evT lv fl d t) := by
  induction d with
  | zero => intro t h; exact h.elim
  | succ d ih =>
    intro t h hty
    rw [tyTr] at hty ⊢
    rw [evT]
    rcases h.1 with ⟨hk, hs, hn, _⟩ | ⟨hk, a, hs⟩ | ⟨hk, a, b, c, hs⟩ | ⟨hk, a, b, hs⟩
    · rw [if_pos hs] at hty ⊢
      rw [hs]; exact word_hasT hV hF hk hn hty
    · rw [hs] at hty ⊢
      rw [if_neg (by simp)] at hty ⊢
      simp only [List.map_cons, List.map_nil, overTy, overT] at hty ⊢
      split at hty
      · rename_i h2
        rw [if_pos h2]
        have := (ih (h.2 a (by rw [hs]; simp)) (by omega)).2 h2
        exact ⟨by unfold In64; omega, fun _ => by omega⟩
      · exact absurd rfl hty
    · rw [hs] at hty ⊢
      rw [if_neg (by simp)] at hty ⊢
      simp only [List.map_cons, List.map_nil, overTy, overT] at hty ⊢
      split at hty
      · rename_i h2
        rw [if_pos h2]
        split
        · exact ih (h.2 b (by rw [hs]; simp)) hty
        · rw [h2.2] at hty ⊢; exact ih (h.2 c (by rw [hs]; simp)) hty
      · exact absurd rfl hty
    · rw [hs] at hty ⊢
      rw [if_neg (by simp)] at hty ⊢
      simp only [List.map_cons, List.map_nil, overTy, overT] at hty ⊢
      refine two2_has _ _ _ _ fun h6 => ?_
      rw [if_pos h6]; split <;> decide

/-- Which passes are done. -/
structure Pass where
  inl : Bool
  fol : Bool
  pru : Bool
  jmp : Bool
/-- Does it hang on the event? -/
def hangsT : Nat → Tr → Bool
  | 0, _ => true
  | d + 1, t => decide (27 ≤ t.k ∧ t.k ≤ 35) || decide (t.k = 2) || t.kids.any (hangsT d)
def inlineT (lets : List Tr) (c : Tr) : Tr := if c.k = 2 ∧ (lets.getD c.l.toNat noTr).kids = [] then lets.getD c.l.toNat noTr else c
def chosenT (c : Tr) : Tr := if (c.kid 0).k = 20 then c.kid 1 else if (c.kid 0).k = 21 then c.kid 2 else c
def zeros9 : List Int := [0, 0, 0, 0, 0, 0, 0, 0, 0]
def foldT (d : Nat) (c : Tr) : Tr :=
  if c.k = 14 then chosenT c else if hangsT d c = true ∨ c.kids = [] then c
  else if c.k = 6 ∨ c.k = 7 then ⟨1, evT [] zeros9 d c, 0, []⟩ else if evT [] zeros9 d c = 1 then ⟨20, 0, 0, []⟩ else ⟨21, 0, 0, []⟩
def decidedT (c : Tr) (s i : Nat) : Tr := if (c.kid 0).k = s ∨ (c.kid 1).k = i then c.kid 0 else if (c.kid 1).k = s ∨ (c.kid 0).k = i then c.kid 1 else c
def pruneT (c : Tr) : Tr :=
  if c.k = 19 then (if (c.kid 0).k = 19 then (c.kid 0).kid 0 else c) else if c.k = 18 then decidedT c 21 20 else if c.k = 17 then decidedT c 20 21 else c
/-- All passes at a part whose parts are rewritten. -/
def passT (p : Pass) (lets : List Tr) (d : Nat) (c : Tr) : Tr :=
  let c := if p.inl then inlineT lets c else c
  let c := if p.fol then foldT d c else c
  if p.pru then pruneT c else c
def rwT (p : Pass) (lets : List Tr) : Nat → Tr → Tr
  | 0, t => t
  | d + 1, t => passT p lets (d + 1) ⟨t.k, t.n, t.l, t.kids.map (rwT p lets d)⟩

/-- What is known of the lets ahead: inlined, or laid. -/
structure LetsOK (p : Pass) (lets : List Tr) (lt lt' : List Nat) (lv lv' fl : List Int) : Prop where
  one : ∀ i, lt.getD i 0 ≠ 0 → p.inl = true → (lets.getD i noTr).kids = [] → WfT 1 (lets.getD i noTr) ∧ tyTr lt' 1 (lets.getD i noTr) = lt.getD i 0 ∧ evT lv' fl 1 (lets.getD i noTr) = lv.getD i 0
  same : ∀ i, lt.getD i 0 ≠ 0 → ¬ (p.inl = true ∧ (lets.getD i noTr).kids = []) → lt'.getD i 0 = lt.getD i 0 ∧ lv'.getD i 0 = lv.getD i 0
/-- One tree is as good as another. -/
structure Alike (lt lt' : List Nat) (lv lv' fl : List Int) (d : Nat) (t t' : Tr) : Prop where
  wf : WfT d t'
  ty : tyTr lt' d t' = tyTr lt d t
  ev : evT lv' fl d t' = evT lv fl d t
  cnt : cntT d t' ≤ cntT d t

theorem cnt_pos {d : Nat} {t : Tr} (h : WfT d t) : 1 ≤ cntT d t := by
  cases d with
  | zero => exact h.elim
  | succ d => rw [cntT]; omega
theorem fixed_ev {lv lv' fl fl' : List Int} {d : Nat} : ∀ {t : Tr}, WfT d t → hangsT d t = false → evT lv fl d t = evT lv' fl' d t := by
  induction d with
  | zero => intro t h; exact h.elim
  | succ d ih =>
    intro t h hh
    rw [hangsT] at hh
    simp only [Bool.or_eq_false_iff, decide_eq_false_iff_not] at hh
    rw [evT, evT, List.map_congr_left fun c hc => ih (h.2 c hc) (by
      have := hh.2
      rw [List.any_eq_false] at this
      have := this c hc
      simpa using this)]
    congr 1
    have h27 : ¬ 27 ≤ t.k := fun h27 => hh.1.1 ⟨h27, by
      rcases h.1 with ⟨hk, _⟩ | ⟨hk, _⟩ | ⟨hk, _⟩ | ⟨hk, _⟩
      · unfold leafK at hk; omega
      · omega
      · omega
      · unfold twoK at hk; omega⟩
    unfold wordT kindV
    rw [if_neg hh.1.2, if_neg hh.1.2, if_neg h27, if_neg h27]
end Go.Proofs.YtfkdailfcmnjlaaGreatDoor

namespace Go.Proofs.YtfkdailfcmnjlaaGreatDoor
open Go Go.RowKit
set_option maxRecDepth 100000

theorem Alike.refl {lt : List Nat} {lv fl : List Int} {d : Nat} {t : Tr} (h : WfT d t) : Alike lt lt lv lv fl d t t := ⟨h, rfl, rfl, Nat.le_refl _⟩
theorem Alike.trans {lt lt' lt'' : List Nat} {lv lv' lv'' fl : List Int} {d : Nat} {t u v : Tr} (h1 : Alike lt lt' lv lv' fl d t u) (h2 : Alike lt' lt'' lv' lv'' fl d u v) : Alike lt lt'' lv lv'' fl d t v :=
  ⟨h2.wf, h2.ty.trans h1.ty, h2.ev.trans h1.ev, Nat.le_trans h2.cnt h1.cnt⟩
theorem wf_leaf {d : Nat} {t : Tr} (h : WfT d t) (hk : leafK t.k) : t.kids = [] := by
  cases d with
  | zero => exact h.elim
  | succ d =>
    unfold leafK at hk
    rcases h.1 with ⟨_, h1, _⟩ | ⟨h1, _⟩ | ⟨h1, _⟩ | ⟨h1, _⟩
    · exact h1
    · omega
    · omega
    · unfold twoK at h1; omega
theorem ev_true {lv fl : List Int} {d : Nat} {t : Tr} (h : WfT d t) (hk : t.k = 20) : evT lv fl d t = 1 := by
  cases d with
  | zero => exact h.elim
  | succ d =>
    have hs := wf_leaf h (by unfold leafK; omega)
    rw [evT, hs]
    show wordT lv fl t = 1
    unfold wordT kindV
    rw [hk]; rfl
theorem ev_false {lv fl : List Int} {d : Nat} {t : Tr} (h : WfT d t) (hk : t.k = 21) : evT lv fl d t = 0 := by
  cases d with
  | zero => exact h.elim
  | succ d =>
    have hs := wf_leaf h (by unfold leafK; omega)
    rw [evT, hs]
    show wordT lv fl t = 0
    unfold wordT kindV
    rw [hk]; rfl
theorem mem_le_sum {n : Nat} : ∀ {l : List Nat}, n ∈ l → n ≤ l.sum
  | [], h => by simp at h
  | x :: l, h => by
    rcases List.mem_cons.1 h with rfl | h
    · simp
    · have := mem_le_sum h; simp only [List.sum_cons]; omega
/-- A part under another, in its place. -/
theorem kid_alike {lt : List Nat} {lv fl : List Int} {d : Nat} {t a : Tr} (h : WfT (d + 1) t) (ha : a ∈ t.kids) (hty : tyTr lt (d + 1) t = tyTr lt d a) (hev : evT lv fl (d + 1) t = evT lv fl d a) : Alike lt lt lv lv fl (d + 1) t a := by
  have hw := h.2 a ha
  refine ⟨hw.up (by omega), by rw [tyTr_up hw (by omega), hty], by rw [evT_up hw (by omega), hev], ?_⟩
  rw [cntT_up hw (by omega), cntT]
  have : cntT d a ≤ (t.kids.map (cntT d)).sum := mem_le_sum (List.mem_map_of_mem ha)
  omega
theorem ty_two {lt : List Nat} {d : Nat} {t a b : Tr} (hs : t.kids = [a, b]) : tyTr lt (d + 1) t = overTy t.k [tyTr lt d a, tyTr lt d b] := by
  rw [tyTr, hs, if_neg (by simp)]; rfl
theorem ev_two {lv fl : List Int} {d : Nat} {t a b : Tr} (hs : t.kids = [a, b]) : evT lv fl (d + 1) t = two2 t.k (evT lv fl d a) (evT lv fl d b) := by
  rw [evT, hs]; rfl
theorem decided_alike {lt : List Nat} {lv fl : List Int} (hV : LetsT lt lv) (hF : FieldsT fl) {d : Nat} {t : Tr} (h : WfT (d + 1) t) (hty : tyTr lt (d + 1) t ≠ 0) (hk : t.k = 17 ∨ t.k = 18) : Alike lt lt lv lv fl (d + 1) t (if t.k = 18 then decidedT t 21 20 else decidedT t 20 21) := by
  obtain ⟨a, b, hs⟩ : ∃ a b, t.kids = [a, b] := by
    rcases h.1 with ⟨h1, _⟩ | ⟨h1, _⟩ | ⟨h1, _⟩ | ⟨_, h1⟩
    · unfold leafK at h1; omega
    · omega
    · omega
    · exact h1
  have hwa := h.2 a (by rw [hs]; simp)
  have hwb := h.2 b (by rw [hs]; simp)
  have e0 : t.kid 0 = a := by unfold Tr.kid; rw [hs]; rfl
  have e1 : t.kid 1 = b := by unfold Tr.kid; rw [hs]; rfl
  have ht2 := ty_two (lt := lt) (d := d) hs
  have hev := ev_two (lv := lv) (fl := fl) (d := d) hs
  have hov : ∀ x y, overTy t.k [x, y] = if x = 2 ∧ y = 2 then 2 else 0 := fun x y => by
    simp only [overTy]
    rw [if_neg (by omega), if_neg (by omega), if_neg (by omega)]
  rw [ht2, hov] at hty
  split at hty
  · rename_i h22
    have hva := (ev_has hV hF hwa (by omega)).2 h22.1
    have hvb := (ev_has hV hF hwb (by omega)).2 h22.2
    have ta : tyTr lt (d + 1) t = tyTr lt d a := by rw [ht2, hov, if_pos h22, h22.1]
    have tb : tyTr lt (d + 1) t = tyTr lt d b := by rw [ht2, hov, if_pos h22, h22.2]
    have ka := fun e => kid_alike (lv := lv) (fl := fl) h (a := a) (by rw [hs]; simp) ta e
    have kb := fun e => kid_alike (lv := lv) (fl := fl) h (a := b) (by rw [hs]; simp) tb e
    unfold decidedT
    rw [e0, e1]
    by_cases h18 : t.k = 18
    · rw [if_pos h18]
      have hand : evT lv fl (d + 1) t = truthI (evT lv fl d a == 1 && evT lv fl d b == 1) := by rw [hev]; unfold two2; rw [h18]; rfl
      split
      · rename_i hc
        refine ka ?_
        rw [hand]
        rcases hc with hc | hc
        · rw [ev_false hwa hc]; rfl
        · rw [ev_true hwb hc]; rcases hva with e | e <;> rw [e] <;> rfl
      · split
        · rename_i hc
          refine kb ?_
          rw [hand]
          rcases hc with hc | hc
          · rw [ev_false hwb hc]; rcases hva with e | e <;> rw [e] <;> rfl
          · rw [ev_true hwa hc]; rcases hvb with e | e <;> rw [e] <;> rfl
        · exact Alike.refl h
    · have h17 : t.k = 17 := by omega
      rw [if_neg h18]
      have hor : evT lv fl (d + 1) t = truthI (evT lv fl d a == 1 || evT lv fl d b == 1) := by rw [hev]; unfold two2; rw [h17]; rfl
      split
      · rename_i hc
        refine ka ?_
        rw [hor]
        rcases hc with hc | hc
        · rw [ev_true hwa hc]; rfl
        · rw [ev_false hwb hc]; rcases hva with e | e <;> rw [e] <;> rfl
      · split
        · rename_i hc
          refine kb ?_
          rw [hor]
          rcases hc with hc | hc
          · rw [ev_true hwb hc]; rcases hva with e | e <;> rw [e] <;> rfl
          · rw [ev_false hwa hc]; rcases hvb with e | e <;> rw [e] <;> rfl
        · exact Alike.refl h
  · exact absurd rfl hty
theorem prune_alike {lt : List Nat} {lv fl : List Int} (hV : LetsT lt lv) (hF : FieldsT fl) {d : Nat} {t : Tr} (h : WfT (d + 1) t) (hty : tyTr lt (d + 1) t ≠ 0) : Alike lt lt lv lv fl (d + 1) t (pruneT t) := by
  unfold pruneT
  by_cases h19 : t.k = 19
  · rw [if_pos h19]
    obtain ⟨a, hs⟩ : ∃ a, t.kids = [a] := by
      rcases h.1 with ⟨h1, _⟩ | ⟨_, h1⟩ | ⟨h1, _⟩ | ⟨h1, _⟩
      · unfold leafK at h1; omega
      · exact h1
      · omega
      · unfold twoK at h1; omega
    have hwa := h.2 a (by rw [hs]; simp)
    have e0 : t.kid 0 = a := by unfold Tr.kid; rw [hs]; rfl
    rw [e0]
    by_cases ha : a.k = 19
    · rw [if_pos ha]
      cases d with
      | zero => exact hwa.elim
      | succ d =>
        obtain ⟨b, hsb⟩ : ∃ b, a.kids = [b] := by
          rcases hwa.1 with ⟨h1, _⟩ | ⟨_, h1⟩ | ⟨h1, _⟩ | ⟨h1, _⟩
          · unfold leafK at h1; omega
          · exact h1
          · omega
          · unfold twoK at h1; omega
        have hwb := hwa.2 b (by rw [hsb]; simp)
        have e1 : a.kid 0 = b := by unfold Tr.kid; rw [hsb]; rfl
        rw [e1]
        have t1 : tyTr lt (d + 1 + 1) t = if tyTr lt (d + 1) a = 2 then 2 else 0 := by rw [tyTr, hs, if_neg (by simp)]; rfl
        have t2 : tyTr lt (d + 1) a = if tyTr lt d b = 2 then 2 else 0 := by rw [tyTr, hsb, if_neg (by simp)]; rfl
        have v1 : evT lv fl (d + 1 + 1) t = 1 - evT lv fl (d + 1) a := by rw [evT, hs]; rfl
        have v2 : evT lv fl (d + 1) a = 1 - evT lv fl d b := by rw [evT, hsb]; rfl
        have hb2 : tyTr lt d b = 2 := by
          rw [t1, t2] at hty
          by_cases e : tyTr lt d b = 2
          · exact e
          · rw [if_neg e] at hty; simp at hty
        refine ⟨hwb.up (by omega), ?_, ?_, ?_⟩
        · rw [tyTr_up hwb (by omega), t1, t2, hb2]; rfl
        · rw [evT_up hwb (by omega), v1, v2]; omega
        · rw [cntT_up hwb (by omega), cntT, hs]
          simp only [List.map_cons, List.map_nil, List.sum_cons, List.sum_nil]
          rw [cntT, hsb]
          simp only [List.map_cons, List.map_nil, List.sum_cons, List.sum_nil]
          omega
    · rw [if_neg ha]; exact Alike.refl h
  rw [if_neg h19]
  by_cases h18 : t.k = 18
  · rw [if_pos h18]
    have := decided_alike hV hF h hty (.inr h18)
    rw [if_pos h18] at this; exact this
  rw [if_neg h18]
  by_cases h17 : t.k = 17
  · rw [if_pos h17]
    have := decided_alike hV hF h hty (.inl h17)
    rw [if_neg h18] at this; exact this
  rw [if_neg h17]; exact Alike.refl h

theorem chosen_alike {lt : List Nat} {lv fl : List Int} {d : Nat} {t : Tr} (h : WfT (d + 1) t) (hty : tyTr lt (d + 1) t ≠ 0) (h14 : t.k = 14) : Alike lt lt lv lv fl (d + 1) t (chosenT t) := by
  obtain ⟨a, b, c, hs⟩ : ∃ a b c, t.kids = [a, b, c] := by
    rcases h.1 with ⟨h1, _⟩ | ⟨h1, _⟩ | ⟨_, h1⟩ | ⟨h1, _⟩
    · unfold leafK at h1; omega
    · omega
    · exact h1
    · unfold twoK at h1; omega
  have hwa := h.2 a (by rw [hs]; simp)
  have e0 : t.kid 0 = a := by unfold Tr.kid; rw [hs]; rfl
  have e1 : t.kid 1 = b := by unfold Tr.kid; rw [hs]; rfl
  have e2 : t.kid 2 = c := by unfold Tr.kid; rw [hs]; rfl
  have t1 : tyTr lt (d + 1) t = if tyTr lt d a = 2 ∧ tyTr lt d b = tyTr lt d c then tyTr lt d b else 0 := by rw [tyTr, hs, if_neg (by simp)]; rfl
  have v1 : evT lv fl (d + 1) t = if evT lv fl d a = 1 then evT lv fl d b else evT lv fl d c := by rw [evT, hs]; rfl
  unfold chosenT
  rw [e0, e1, e2]
  rw [t1] at hty
  split at hty
  · rename_i hc
    rw [if_pos hc] at t1
    by_cases h20 : a.k = 20
    · rw [if_pos h20]
      exact kid_alike h (by rw [hs]; simp) t1 (by rw [v1, ev_true hwa h20, if_pos rfl])
    rw [if_neg h20]
    by_cases h21 : a.k = 21
    · rw [if_pos h21]
      exact kid_alike h (by rw [hs]; simp) (by rw [t1, hc.2]) (by rw [v1, ev_false hwa h21, if_neg (by decide)])
    rw [if_neg h21]; exact Alike.refl h
  · exact absurd rfl hty
theorem leaf_wf {d k : Nat} {n : Int} (hk : leafK k) (h1 : k = 1 → In64 n) (h2 : k ≠ 2) : WfT (d + 1) ⟨k, n, 0, []⟩ := ⟨.inl ⟨hk, rfl, h1, fun e => absurd e h2⟩, by simp⟩
theorem zeros_fields : FieldsT zeros9 := fun n hn => by
  have e : zeros9.getD n 0 = 0 := by
    have : n = 0 ∨ n = 1 ∨ n = 2 ∨ n = 3 ∨ n = 4 ∨ n = 5 ∨ n = 6 ∨ n = 7 ∨ n = 8 := by omega
    rcases this with rfl | rfl | rfl | rfl | rfl | rfl | rfl | rfl | rfl <;> rfl
  rw [e]; exact ⟨by unfold In64; omega, fun _ => .inl rfl⟩
theorem fold_alike {lt : List Nat} {lv fl : List Int} (hV : LetsT lt lv) (hF : FieldsT fl) {d : Nat} {t : Tr} (h : WfT (d + 1) t) (hty : tyTr lt (d + 1) t ≠ 0) : Alike lt lt lv lv fl (d + 1) t (foldT (d + 1) t) := by
  unfold foldT
  by_cases h14 : t.k = 14
  · rw [if_pos h14]; exact chosen_alike h hty h14
  rw [if_neg h14]
  by_cases hc : hangsT (d + 1) t = true ∨ t.kids = []
  · rw [if_pos hc]; exact Alike.refl h
  rw [if_neg hc]
  have hh : hangsT (d + 1) t = false := by
    cases e : hangsT (d + 1) t with
    | true => exact absurd (.inl e) hc
    | false => rfl
  have hne : t.kids ≠ [] := fun e => hc (.inr e)
  have hev : evT lv fl (d + 1) t = evT [] zeros9 (d + 1) t := fixed_ev h hh
  have hhas := ev_has hV hF h hty
  have hp := cnt_pos h
  rw [← hev]
  by_cases h6 : t.k = 6 ∨ t.k = 7
  · rw [if_pos h6]
    have ht : tyTr lt (d + 1) t = 1 := by
      rcases h.1 with ⟨h1, _⟩ | ⟨h1, _⟩ | ⟨h1, _⟩ | ⟨_, a, b, hs⟩
      · unfold leafK at h1; omega
      · omega
      · omega
      · rw [ty_two hs] at hty ⊢
        simp only [overTy] at hty ⊢
        rw [if_pos h6] at hty ⊢
        split at hty
        · rename_i hc; rw [if_pos hc]
        · exact absurd rfl hty
    refine ⟨leaf_wf (.inl rfl) (fun _ => hhas.1) (by decide), ?_, ?_, ?_⟩
    · rw [ht]; rfl
    · rfl
    · simp [cntT]
  rw [if_neg h6]
  have ht : tyTr lt (d + 1) t = 2 := by
    rcases h.1 with ⟨_, h1, _⟩ | ⟨_, a, hs⟩ | ⟨h1, _⟩ | ⟨hk, a, b, hs⟩
    · exact absurd h1 hne
    · rw [tyTr, hs, if_neg (by simp)] at hty ⊢
      simp only [List.map_cons, List.map_nil, overTy] at hty ⊢
      split at hty
      · rename_i hc; rw [if_pos hc]
      · exact absurd rfl hty
    · omega
    · rw [ty_two hs] at hty ⊢
      simp only [overTy] at hty ⊢
      rw [if_neg h6] at hty ⊢
      split at hty
      · rename_i h9
        rw [if_pos h9]
        split at hty
        · rename_i hc; rw [if_pos hc]
        · exact absurd rfl hty
      · rename_i h9
        rw [if_neg h9]
        split at hty
        · rename_i h8
          rw [if_pos h8]
          split at hty
          · rename_i hc; rw [if_pos hc]
          · exact absurd rfl hty
        · rename_i h8
          rw [if_neg h8]
          split at hty
          · rename_i hc; rw [if_pos hc]
          · exact absurd rfl hty
  have h01 := hhas.2 ht
  by_cases h1 : evT lv fl (d + 1) t = 1
  · rw [if_pos h1]
    refine ⟨leaf_wf (.inr (.inr (by omega))) (fun e => by omega) (by decide), ?_, ?_, ?_⟩
    · rw [ht]; rfl
    · rw [h1]; rfl
    · simp [cntT]
  · rw [if_neg h1]
    refine ⟨leaf_wf (.inr (.inr (by omega))) (fun e => by omega) (by decide), ?_, ?_, ?_⟩
    · rw [ht]; rfl
    · have : evT lv fl (d + 1) t = 0 := by omega
      rw [this]; rfl
    · simp [cntT]

theorem sum_le_map {α : Type} {f g : α → Nat} : ∀ {l : List α}, (∀ x ∈ l, f x ≤ g x) → (l.map f).sum ≤ (l.map g).sum
  | [], _ => Nat.le_refl _
  | x :: l, h => by
    have h1 := h x (by simp)
    have h2 := sum_le_map (l := l) (f := f) (g := g) fun y hy => h y (by simp [hy])
    simp only [List.map_cons, List.sum_cons]; omega
theorem kids_ty {lt : List Nat} {d : Nat} {t : Tr} (h : WfT (d + 1) t) (hty : tyTr lt (d + 1) t ≠ 0) : ∀ c ∈ t.kids, tyTr lt d c ≠ 0 := by
  rcases h.1 with ⟨_, h1, _⟩ | ⟨_, a, hs⟩ | ⟨_, a, b, c, hs⟩ | ⟨hk, a, b, hs⟩
  · rw [h1]; simp
  · rw [tyTr, hs, if_neg (by simp)] at hty
    simp only [List.map_cons, List.map_nil, overTy] at hty
    intro x hx
    rw [hs] at hx; simp at hx; subst hx
    split at hty
    · omega
    · exact absurd rfl hty
  · rw [tyTr, hs, if_neg (by simp)] at hty
    simp only [List.map_cons, List.map_nil, overTy] at hty
    intro x hx
    rw [hs] at hx; simp at hx
    split at hty
    · rename_i hc
      rcases hx with rfl | rfl | rfl
      · omega
      · exact hty
      · rw [← hc.2]; exact hty
    · exact absurd rfl hty
  · rw [ty_two hs] at hty
    simp only [overTy] at hty
    intro x hx
    rw [hs] at hx; simp at hx
    split at hty
    · split at hty
      · rcases hx with rfl | rfl <;> omega
      · exact absurd rfl hty
    · split at hty
      · split at hty
        · rcases hx with rfl | rfl <;> omega
        · exact absurd rfl hty
      · split at hty
        · split at hty
          · rename_i hc; rcases hx with rfl | rfl
            · exact hc.2
            · rw [← hc.1]; exact hc.2
          · exact absurd rfl hty
        · split at hty
          · rcases hx with rfl | rfl <;> omega
          · exact absurd rfl hty
/-- Rewriting leaves a condition as good as it was. -/
theorem rw_alike {p : Pass} {lets : List Tr} {lt lt' : List Nat} {lv lv' fl : List Int} (hL : LetsOK p lets lt lt' lv lv' fl) (hV : LetsT lt' lv') (hF : FieldsT fl) {d : Nat} : ∀ {t : Tr}, WfT d t → tyTr lt d t ≠ 0 → Alike lt lt' lv lv' fl d t (rwT p lets d t) := by
  induction d with
  | zero => intro t h; exact h.elim
  | succ d ih =>
    intro t h hty
    rw [rwT]
    have hkt := kids_ty h hty
    have hkid : ∀ c ∈ t.kids, Alike lt lt' lv lv' fl d c (rwT p lets d c) := fun c hc => ih (h.2 c hc) (hkt c hc)
    have hmt : (t.kids.map (rwT p lets d)).map (tyTr lt' d) = t.kids.map (tyTr lt d) := by
      rw [List.map_map]; exact List.map_congr_left fun c hc => (hkid c hc).ty
    have hmv : (t.kids.map (rwT p lets d)).map (evT lv' fl d) = t.kids.map (evT lv fl d) := by
      rw [List.map_map]; exact List.map_congr_left fun c hc => (hkid c hc).ev
    have hw0 : WfT (d + 1) ⟨t.k, t.n, t.l, t.kids.map (rwT p lets d)⟩ := by
      refine ⟨?_, fun c hc => ?_⟩
      · rcases h.1 with ⟨h1, h2, h3, h4⟩ | ⟨h1, a, h2⟩ | ⟨h1, a, b, c, h2⟩ | ⟨h1, a, b, h2⟩
        · exact .inl ⟨h1, by rw [h2]; rfl, h3, h4⟩
        · exact .inr (.inl ⟨h1, _, by rw [h2]; rfl⟩)
        · exact .inr (.inr (.inl ⟨h1, _, _, _, by rw [h2]; rfl⟩))
        · exact .inr (.inr (.inr ⟨h1, _, _, by rw [h2]; rfl⟩))
      · obtain ⟨x, hx, rfl⟩ := List.mem_map.1 hc
        exact (hkid x hx).wf
    have hc0 : cntT (d + 1) ⟨t.k, t.n, t.l, t.kids.map (rwT p lets d)⟩ ≤ cntT (d + 1) t := by
      rw [cntT, cntT]
      simp only [List.map_map]
      have := sum_le_map (l := t.kids) (f := cntT d ∘ rwT p lets d) (g := cntT d) fun c hc => (hkid c hc).cnt
      omega
    have base : (t.k = 2 → lt'.getD t.l.toNat 0 = lt.getD t.l.toNat 0 ∧ lv'.getD t.l.toNat 0 = lv.getD t.l.toNat 0) → Alike lt lt' lv lv' fl (d + 1) t ⟨t.k, t.n, t.l, t.kids.map (rwT p lets d)⟩ := fun hl => by
      refine ⟨hw0, ?_, ?_, hc0⟩
      · rw [tyTr, tyTr]
        simp only [hmt, List.map_eq_nil_iff]
        have e : wordTy lt' ⟨t.k, t.n, t.l, t.kids.map (rwT p lets d)⟩ = wordTy lt t := by
          unfold wordTy
          simp only []
          by_cases h1 : t.k = 1
          · rw [if_pos h1, if_pos h1]
          · rw [if_neg h1, if_neg h1]
            by_cases h2 : t.k = 2
            · rw [if_pos h2, if_pos h2, (hl h2).1]
            · rw [if_neg h2, if_neg h2]
        rw [e]
      rw [evT, evT]
      simp only [hmv]
      congr 1
      unfold wordT
      simp only []
      by_cases h1 : t.k = 1
      · rw [if_pos h1, if_pos h1]
      · rw [if_neg h1, if_neg h1]
        by_cases h2 : t.k = 2
        · rw [if_pos h2, if_pos h2, (hl h2).2]
        · rw [if_neg h2, if_neg h2]
    have rest : ∀ c : Tr, Alike lt lt' lv lv' fl (d + 1) t c → Alike lt lt' lv lv' fl (d + 1) t (if p.pru then pruneT (if p.fol then foldT (d + 1) c else c) else (if p.fol then foldT (d + 1) c else c)) := fun c hc => by
      have h1 : Alike lt lt' lv lv' fl (d + 1) t (if p.fol then foldT (d + 1) c else c) := by
        split
        · exact hc.trans (fold_alike hV hF hc.wf (by rw [hc.ty]; exact hty))
        · exact hc
      split
      · exact h1.trans (prune_alike hV hF h1.wf (by rw [h1.ty]; exact hty))
      · exact h1
    have hown : t.k = 2 → t.kids = [] ∧ lt.getD t.l.toNat 0 ≠ 0 := fun h2 => by
      have hs := wf_leaf h (by unfold leafK; omega)
      refine ⟨hs, ?_⟩
      rw [tyTr, if_pos hs] at hty
      unfold wordTy at hty
      rwa [if_neg (by omega), if_pos h2] at hty
    unfold passT
    refine rest _ ?_
    by_cases hi : p.inl = true
    · rw [if_pos hi]
      unfold inlineT
      simp only []
      by_cases hc : t.k = 2 ∧ (lets.getD t.l.toNat noTr).kids = []
      · rw [if_pos hc]
        obtain ⟨hs, hlt⟩ := hown hc.1
        obtain ⟨o1, o2, o3⟩ := hL.one _ hlt hi hc.2
        refine ⟨o1.up (by omega), ?_, ?_, ?_⟩
        · rw [tyTr_up o1 (by omega), o2, tyTr, if_pos hs]
          unfold wordTy; rw [if_neg (by omega), if_pos hc.1]
        · rw [evT_up o1 (by omega), o3, evT, hs]
          show _ = wordT lv fl t
          unfold wordT; rw [if_neg (by omega), if_pos hc.1]
        · rw [cntT_up o1 (by omega), cntT, hc.2]
          have := cnt_pos h
          simpa using this
      · rw [if_neg hc]
        refine base fun h2 => ?_
        exact hL.same _ (hown h2).2 fun e => hc ⟨h2, e.2⟩
    · rw [if_neg hi]
      exact base fun h2 => hL.same _ (hown h2).2 fun e => hi e.1
end Go.Proofs.YtfkdailfcmnjlaaGreatDoor

namespace Go.Proofs.YtfkdailfcmnjlaaGreatDoor
open Go Go.RowKit
set_option maxRecDepth 100000
attribute [local go_sem ↓] Go.wp_at_zero Go.wp_at_succ

set_option maxHeartbeats 4000000 in
theorem tellOver_any {x : List UInt8} (hx : x ∈ ([[43], [45], [60], [60, 61], [61], [111, 114], [97, 110, 100]] : List (List UInt8))) {a b : Int} (ha : In64 a) (hb : In64 b) (w : World) :
    Calls Tryz.prog 126 #[.int .i64 (kn x), .int .i64 a, .int .i64 b] w fun e w' => e = .returned (.int .i64 (twoI x a b)) ∧ w' = w := by
  simp only [List.mem_cons, List.not_mem_nil, or_false] at hx
  rcases hx with rfl | rfl | rfl | rfl | rfl | rfl | rfl
  · have HC : Hid (twoI [43] a b = clampI (a + b)) := rfl
    have W1 := fun W => padd_any ha hb W
    rw [show kn [43] = 6 from by decide]
    generalize clampI (a + b) = r at *
    go_enter Tryz.func126, Tryz.ntmps126
    go_wp2_with fail
    refine (W1 _).mono ?_
    rintro e w1 ⟨rfl, rfl⟩
    clear W1
    go_wp2_with fail
    go_ret
    exact ⟨by rw [HC.out]; rfl, rfl⟩
  · have HC : Hid (twoI [45] a b = clampI (a - b)) := rfl
    have W1 := fun W => psub_any ha hb W
    rw [show kn [45] = 7 from by decide]
    generalize clampI (a - b) = r at *
    go_enter Tryz.func126, Tryz.ntmps126
    go_wp2_with fail
    refine (W1 _).mono ?_
    rintro e w1 ⟨rfl, rfl⟩
    clear W1
    go_wp2_with fail
    go_ret
    exact ⟨by rw [HC.out]; rfl, rfl⟩
  · have HC : Hid (twoI [60] a b = truthI (decide (a < b))) := rfl
    have W1 := fun W => pless_any a b W
    rw [show kn [60] = 10 from by decide]
    generalize truthI (decide (a < b)) = r at *
    go_enter Tryz.func126, Tryz.ntmps126
    go_wp2_with fail
    refine (W1 _).mono ?_
    rintro e w1 ⟨rfl, rfl⟩
    clear W1
    go_wp2_with fail
    go_ret
    exact ⟨by rw [HC.out]; rfl, rfl⟩
  · have HC : Hid (twoI [60, 61] a b = truthI (decide (a ≤ b))) := rfl
    have W1 := fun W => patmost_any a b W
    rw [show kn [60, 61] = 9 from by decide]
    generalize truthI (decide (a ≤ b)) = r at *
    go_enter Tryz.func126, Tryz.ntmps126
    go_wp2_with fail
    refine (W1 _).mono ?_
    rintro e w1 ⟨rfl, rfl⟩
    clear W1
    go_wp2_with fail
    go_ret
    exact ⟨by rw [HC.out]; rfl, rfl⟩
  · have HC : Hid (twoI [61] a b = truthI (a == b)) := rfl
    have W1 := fun W => pequal_any a b W
    rw [show kn [61] = 8 from by decide]
    generalize truthI (a == b) = r at *
    go_enter Tryz.func126, Tryz.ntmps126
    go_wp2_with fail
    refine (W1 _).mono ?_
    rintro e w1 ⟨rfl, rfl⟩
    clear W1
    go_wp2_with fail
    go_ret
    exact ⟨by rw [HC.out]; rfl, rfl⟩
  · have HC : Hid (twoI [111, 114] a b = truthI (a == 1 || b == 1)) := rfl
    have W1 := fun W => por_any a b W
    rw [show kn [111, 114] = 17 from by decide]
    generalize truthI (a == 1 || b == 1) = r at *
    go_enter Tryz.func126, Tryz.ntmps126
    go_wp2_with fail
    refine (W1 _).mono ?_
    rintro e w1 ⟨rfl, rfl⟩
    clear W1
    go_wp2_with fail
    go_ret
    exact ⟨by rw [HC.out]; rfl, rfl⟩
  · have HC : Hid (twoI [97, 110, 100] a b = truthI (a == 1 && b == 1)) := rfl
    have W1 := fun W => pand_any a b W
    rw [show kn [97, 110, 100] = 18 from by decide]
    generalize truthI (a == 1 && b == 1) = r at *
    go_enter Tryz.func126, Tryz.ntmps126
    go_wp2_with fail
    refine (W1 _).mono ?_
    rintro e w1 ⟨rfl, rfl⟩
    clear W1
    go_wp2_with fail
    go_ret
    exact ⟨by rw [HC.out]; rfl, rfl⟩
end Go.Proofs.YtfkdailfcmnjlaaGreatDoor

namespace Go.Proofs.YtfkdailfcmnjlaaGreatDoor
open Go Go.RowKit
set_option maxRecDepth 100000
attribute [local go_sem ↓] Go.wp_at_zero Go.wp_at_succ

/-- An event; a state. -/
structure Ev where
  sender : List UInt8
  target : List UInt8
  wants : Int
  need : Int
  when_ : Int
structure Stt where
  levels : List (List UInt8 × Int)
  dflt : Int
  members : List (List UInt8 × Int)
  open_ : Bool
def evV (e : Ev) : Value := .agg #[S e.sender, S e.target, .int .i64 e.wants, .int .i64 e.need, .int .i64 e.when_]
def sttV (lv mv : Value) (s : Stt) : Value := .agg #[lv, .int .i64 s.dflt, mv, .bool s.open_]
/-- All nine fields. -/
def fieldsL (e : Ev) (s : Stt) : List Int := [firstI s.dflt s.levels e.sender, firstI s.dflt s.levels e.target, e.need, e.when_, firstK s.members e.sender, firstK s.members e.target, knownI e.wants, truthI (e.sender == e.target), truthI s.open_]

set_option maxHeartbeats 8000000 in
theorem fields_ref {lv mv : Value} (e : Ev) (s : Stt) (w : World) (h1 : PairsAt lv s.levels w) (h2 : PairsAt mv s.members w) (hw : In64 e.wants) :
    Calls Tryz.prog 41 #[evV e, sttV lv mv s] w fun en w' => (∃ gf, en = .returned (.slice (some ⟨gf, 0, none⟩) 9 9) ∧ ∀ i, i < 9 → w'.cell? ⟨gf, i, none⟩ = some (.int .i64 ((fieldsL e s).getD i 0))) ∧ Below w.heap.size w w' := by
  unfold evV sttV
  obtain ⟨sn, tg, wa, nd, wh⟩ := e
  obtain ⟨ls, df, ms, op⟩ := s
  simp only [] at *
  have hol : lv.oneCell' = true := by obtain ⟨_, a, c, rfl, _⟩ := h1; rfl
  have hom : mv.oneCell' = true := by obtain ⟨_, a, c, rfl, _⟩ := h2; rfl
  have hEo : Obj := .cells #[S sn, S tg, .int .i64 wa, .int .i64 nd, .int .i64 wh] 46
  clear hEo
  have hB0 : Below w.heap.size w ((w.alloc (.cells #[S sn, S tg, .int .i64 wa, .int .i64 nd, .int .i64 wh] 46)).alloc (.cells #[lv, .int .i64 df, mv, .bool op] 50)) := ((Below.refl _ _).alloc (Nat.le_refl _) _).alloc (by simp) _
  have hX0 : ((w.alloc (.cells #[S sn, S tg, .int .i64 wa, .int .i64 nd, .int .i64 wh] 46)).alloc (.cells #[lv, .int .i64 df, mv, .bool op] 50)).heap[w.heap.size]? = some (.cells #[S sn, S tg, .int .i64 wa, .int .i64 nd, .int .i64 wh] 46 (0, 0)) := by rw [Below.heap_alloc _ _ _ (by simp)]; exact heap_alloc_new w _
  have hP0 : ((w.alloc (.cells #[S sn, S tg, .int .i64 wa, .int .i64 nd, .int .i64 wh] 46)).alloc (.cells #[lv, .int .i64 df, mv, .bool op] 50)).heap[w.heap.size + 1]? = some (.cells #[lv, .int .i64 df, mv, .bool op] 50 (0, 0)) := by have e := heap_alloc_new (w.alloc (.cells #[S sn, S tg, .int .i64 wa, .int .i64 nd, .int .i64 wh] 46)) (.cells #[lv, .int .i64 df, mv, .bool op] 50); rw [World.size_alloc] at e; exact e
  have H0 : Hid _ := And.intro hB0 (And.intro hX0 hP0)
  have WL : ∀ (u : List UInt8) (W : World), Below w.heap.size w W → Calls Tryz.prog 83 #[.agg #[lv, .int .i64 df, mv, .bool op], S u] W fun e w' => e = .returned (.int .i64 (firstI df ls u)) ∧ Below W.heap.size W w' := fun u W hb => level_any u W (h1.below hb)
  have WI : ∀ (u : List UInt8) (W : World), Below w.heap.size w W → Calls Tryz.prog 84 #[.agg #[lv, .int .i64 df, mv, .bool op], S u] W fun e w' => e = .returned (.int .i64 (firstK ms u)) ∧ Below W.heap.size W w' := fun u W hb => is_any u W (h2.below hb)
  have WK := fun W => known_any hw W
  have WT := fun b W => truth_any b W
  have KP : Hid (∀ W W', (Below w.heap.size w W ∧ W.cell? ⟨w.heap.size, 0, none⟩ = some (S sn) ∧ W.cell? ⟨w.heap.size, 1, none⟩ = some (S tg) ∧ W.cell? ⟨w.heap.size, 2, none⟩ = some (.int .i64 wa) ∧ W.cell? ⟨w.heap.size, 3, none⟩ = some (.int .i64 nd) ∧ W.cell? ⟨w.heap.size, 4, none⟩ = some (.int .i64 wh) ∧ W.cell? ⟨w.heap.size + 1, 0, none⟩ = some (lv) ∧ W.cell? ⟨w.heap.size + 1, 1, none⟩ = some (.int .i64 df) ∧ W.cell? ⟨w.heap.size + 1, 2, none⟩ = some (mv) ∧ W.cell? ⟨w.heap.size + 1, 3, none⟩ = some (.bool op)) → Below W.heap.size W W' → (Below w.heap.size w W' ∧ W'.cell? ⟨w.heap.size, 0, none⟩ = some (S sn) ∧ W'.cell? ⟨w.heap.size, 1, none⟩ = some (S tg) ∧ W'.cell? ⟨w.heap.size, 2, none⟩ = some (.int .i64 wa) ∧ W'.cell? ⟨w.heap.size, 3, none⟩ = some (.int .i64 nd) ∧ W'.cell? ⟨w.heap.size, 4, none⟩ = some (.int .i64 wh) ∧ W'.cell? ⟨w.heap.size + 1, 0, none⟩ = some (lv) ∧ W'.cell? ⟨w.heap.size + 1, 1, none⟩ = some (.int .i64 df) ∧ W'.cell? ⟨w.heap.size + 1, 2, none⟩ = some (mv) ∧ W'.cell? ⟨w.heap.size + 1, 3, none⟩ = some (.bool op))) := fun W W' hS hb => by
    obtain ⟨hb0, a0, a1, a2, a3, a4, a5, a6, a7, a8⟩ := hS
    refine ⟨hb0.trans (hb.mono hb0.size), ?_, ?_, ?_, ?_, ?_, ?_, ?_, ?_, ?_⟩
    all_goals (rw [hb.cell (World.block_lt_of_cell? W _ (by assumption))]; assumption)
  have KD : Hid (∀ W : World, (Below w.heap.size w W ∧ W.cell? ⟨w.heap.size, 0, none⟩ = some (S sn) ∧ W.cell? ⟨w.heap.size, 1, none⟩ = some (S tg) ∧ W.cell? ⟨w.heap.size, 2, none⟩ = some (.int .i64 wa) ∧ W.cell? ⟨w.heap.size, 3, none⟩ = some (.int .i64 nd) ∧ W.cell? ⟨w.heap.size, 4, none⟩ = some (.int .i64 wh) ∧ W.cell? ⟨w.heap.size + 1, 0, none⟩ = some (lv) ∧ W.cell? ⟨w.heap.size + 1, 1, none⟩ = some (.int .i64 df) ∧ W.cell? ⟨w.heap.size + 1, 2, none⟩ = some (mv) ∧ W.cell? ⟨w.heap.size + 1, 3, none⟩ = some (.bool op)) → (Below w.heap.size w W.drew ∧ W.drew.cell? ⟨w.heap.size, 0, none⟩ = some (S sn) ∧ W.drew.cell? ⟨w.heap.size, 1, none⟩ = some (S tg) ∧ W.drew.cell? ⟨w.heap.size, 2, none⟩ = some (.int .i64 wa) ∧ W.drew.cell? ⟨w.heap.size, 3, none⟩ = some (.int .i64 nd) ∧ W.drew.cell? ⟨w.heap.size, 4, none⟩ = some (.int .i64 wh) ∧ W.drew.cell? ⟨w.heap.size + 1, 0, none⟩ = some (lv) ∧ W.drew.cell? ⟨w.heap.size + 1, 1, none⟩ = some (.int .i64 df) ∧ W.drew.cell? ⟨w.heap.size + 1, 2, none⟩ = some (mv) ∧ W.drew.cell? ⟨w.heap.size + 1, 3, none⟩ = some (.bool op))) := fun W hS => by
    obtain ⟨hb0, a0, a1, a2, a3, a4, a5, a6, a7, a8⟩ := hS
    exact ⟨hb0.drew, a0, a1, a2, a3, a4, a5, a6, a7, a8⟩
  have HF : Hid (fieldsL ⟨sn, tg, wa, nd, wh⟩ ⟨ls, df, ms, op⟩ = [firstI df ls sn, firstI df ls tg, nd, wh, firstK ms sn, firstK ms tg, knownI wa, truthI (sn == tg), truthI op]) := rfl
  clear hB0 hX0 hP0 h1 h2 hw
  go_enter Tryz.func41, Tryz.ntmps41
  go_wp2_with fail
  obtain ⟨hB0, hX0, hP0⟩ := H0.out
  clear H0
  generalize ((w.alloc (.cells #[S sn, S tg, .int .i64 wa, .int .i64 nd, .int .i64 wh] 46)).alloc (.cells #[lv, .int .i64 df, mv, .bool op] 50)) = wz at *
  have hS0 : Below w.heap.size w wz ∧ wz.cell? ⟨w.heap.size, 0, none⟩ = some (S sn) ∧ wz.cell? ⟨w.heap.size, 1, none⟩ = some (S tg) ∧ wz.cell? ⟨w.heap.size, 2, none⟩ = some (.int .i64 wa) ∧ wz.cell? ⟨w.heap.size, 3, none⟩ = some (.int .i64 nd) ∧ wz.cell? ⟨w.heap.size, 4, none⟩ = some (.int .i64 wh) ∧ wz.cell? ⟨w.heap.size + 1, 0, none⟩ = some (lv) ∧ wz.cell? ⟨w.heap.size + 1, 1, none⟩ = some (.int .i64 df) ∧ wz.cell? ⟨w.heap.size + 1, 2, none⟩ = some (mv) ∧ wz.cell? ⟨w.heap.size + 1, 3, none⟩ = some (.bool op) := by
    refine ⟨hB0, ?_, ?_, ?_, ?_, ?_, ?_, ?_, ?_, ?_⟩
    all_goals first | (rw [cell_of_row wz w.heap.size _ _ _ _ hX0]; rfl) | (rw [cell_of_row wz (w.heap.size + 1) _ _ _ _ hP0]; rfl)
  clear hB0 hX0 hP0
  go_region_held3 (fun w' => Below w.heap.size w w' ∧ w'.cell? ⟨w.heap.size, 0, none⟩ = some (S sn) ∧ w'.cell? ⟨w.heap.size, 1, none⟩ = some (S tg) ∧ w'.cell? ⟨w.heap.size, 2, none⟩ = some (.int .i64 wa) ∧ w'.cell? ⟨w.heap.size, 3, none⟩ = some (.int .i64 nd) ∧ w'.cell? ⟨w.heap.size, 4, none⟩ = some (.int .i64 wh) ∧ w'.cell? ⟨w.heap.size + 1, 0, none⟩ = some (lv) ∧ w'.cell? ⟨w.heap.size + 1, 1, none⟩ = some (.int .i64 df) ∧ w'.cell? ⟨w.heap.size + 1, 2, none⟩ = some (mv) ∧ w'.cell? ⟨w.heap.size + 1, 3, none⟩ = some (.bool op)) (first | exact KD.out _ (by assumption) | exact KP.out _ _ (by assumption) (by assumption) | exact KP.out _ _ (by assumption) ((Below.refl _ _).alloc (Nat.le_refl _) _) | assumption | go_keep)
    (first
      | (go_at_call 83; refine (WL _ _ (by exact And.left (by assumption))).mono ?_; rintro e w1 ⟨rfl, hb1⟩)
      | (go_at_call 84; refine (WI _ _ (by exact And.left (by assumption))).mono ?_; rintro e w1 ⟨rfl, hb1⟩)
      | (go_at_call 85; refine (WK _).mono ?_; rintro e w1 ⟨rfl, rfl⟩)
      | (go_at_call 86; refine (WT _ _).mono ?_; rintro e w1 ⟨rfl, rfl⟩))
  rename_i hHeld
  have hBl := hHeld.1
  have hnew := heap_alloc_new w1 (.cells #[.int .i64 (firstI df ls sn), .int .i64 (firstI df ls tg), .int .i64 nd, .int .i64 wh, .int .i64 (firstK ms sn), .int .i64 (firstK ms tg), .int .i64 (knownI wa), .int .i64 (truthI (sn == tg)), .int .i64 (truthI op)] 2)
  clear hHeld KP KD WL WI WK WT hS0
  have HN : Hid _ := And.intro hBl hnew
  clear hBl hnew
  go_wp2_with fail
  go_ret
  refine ⟨⟨w1.heap.size, rfl, fun i hi => ?_⟩, HN.out.1⟩
  rw [cell_of_row _ w1.heap.size i _ _ _ HN.out.2, HF.out]
  have e9 : i = 0 ∨ i = 1 ∨ i = 2 ∨ i = 3 ∨ i = 4 ∨ i = 5 ∨ i = 6 ∨ i = 7 ∨ i = 8 := by omega
  rcases e9 with rfl | rfl | rfl | rfl | rfl | rfl | rfl | rfl | rfl <;> rfl
end Go.Proofs.YtfkdailfcmnjlaaGreatDoor
