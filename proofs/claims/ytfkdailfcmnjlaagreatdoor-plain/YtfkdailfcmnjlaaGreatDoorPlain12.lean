/-
  What is asked of a policy hangs on what was meant alone. A text that has the words of a policy is read as that policy; a text that was read is one of these; its plain form is read back. Scalars of what is written: pick, known, truth, deeper, plus, minus. What is made of words: conditions, as they are printed and with other brackets, and what they tell.
-/
import Derived.Test.YtfkdailfcmnjlaaGreatDoorPlain01
import Derived.Test.YtfkdailfcmnjlaaGreatDoorPlain02
import Derived.Test.YtfkdailfcmnjlaaGreatDoorPlain03
import Derived.Test.YtfkdailfcmnjlaaGreatDoorPlain04
import Derived.Test.YtfkdailfcmnjlaaGreatDoorPlain05
import Derived.Test.YtfkdailfcmnjlaaGreatDoorPlain06
import Derived.Test.YtfkdailfcmnjlaaGreatDoorPlain07
import Derived.Test.YtfkdailfcmnjlaaGreatDoorPlain08
import Derived.Test.YtfkdailfcmnjlaaGreatDoorPlain09
import Derived.Test.YtfkdailfcmnjlaaGreatDoorPlain10
import Derived.Test.YtfkdailfcmnjlaaGreatDoorPlain11
import Derived.Test.YtfkdailfcmnjlaaGreatDoorLays
import Derived.Test.YtfkdailfcmnjlaaGreatDoorLays2
import Derived.WalkKit
import Derived.Deep.QuietTactic
import Derived.BigQuiet
import Derived.WalkSpells
import GoSem.Op.String
import Derived.Deep.AppendLies
import Derived.Deep.RegionHeld3
import Derived.Deep.DrawnRows
import Derived.Deep.RegionHeldLaw
import Derived.Deep.RegionLaw
import Derived.Lib.ParseIntBCases
import Derived.Deep.OwnRows
import Derived.Lib.LaidTab
import Derived.Lib.AppendIntMem
import Derived.Shelf.Strings.Builder1
import Derived.Laws.CopyOwn
set_option linter.unusedVariables false
set_option linter.unusedSimpArgs false
namespace Go.Proofs.YtfkdailfcmnjlaaGreatDoor
set_option maxRecDepth 100000

/-- A value of a part by its word and the values under it. -/
def foL {β : Type} (N : Tok → List β → β) (z : β) : Nat → List Pt → Nat → β
  | 0, _, _ => z
  | f + 1, L, i => N (L.getD i noPt).tok ((L.getD i noPt).subs.map (foL N z f L))
def tokS (s : Sy) : Tok := ⟨s.k, s.text, 0⟩
def foS {β : Type} (N : Tok → List β → β) (z : β) : Nat → Sy → β
  | 0, _ => z
  | d + 1, s => N (tokS s) (s.kids.map (foS N z d))
/-- It hangs on a word's kind and text alone (of a number, its value). -/
def Fair {β : Type} (N : Tok → List β → β) : Prop := ∀ (t : Tok) (s : Sy) (l : List β), SameW t s → (t.k = 110 → l = []) → N t l = N (tokS s) l
theorem map_is {β : Type} (F : Nat → β) (G : Sy → β) {js : List Nat} {ks : List Sy} (hl : js.length = ks.length) (h : ∀ j, j < ks.length → F (js.getD j 0) = G (ks.getD j noSy)) : js.map F = ks.map G := by
  apply List.ext_getElem
  · simp [hl]
  · intro j h1 h2
    have hj : j < ks.length := by simpa using h2
    have := h j hj
    simp only [List.getElem_map]
    rw [List.getD_eq_getElem?_getD, List.getD_eq_getElem?_getD, List.getElem?_eq_getElem (by omega), List.getElem?_eq_getElem hj] at this
    exact this
theorem shape_number {p : Pt} (h : Shape p) (h1 : p.tok.k = 110) : p.subs = [] := by
  rcases h with ⟨_, h⟩ | ⟨h, _⟩ | ⟨h, _⟩ | ⟨n, _, h, _⟩
  · exact h
  · unfold isW at h; rw [h1] at h; simp at h
  · unfold isW at h; rw [h1] at h; simp at h
  · unfold joins at h; rw [h1] at h; simp at h
theorem fo_same {β : Type} {N : Tok → List β → β} {z : β} (hN : Fair N) (f : Nat) : ∀ {d : Nat} {L : List Pt} {lo i : Nat} {s : Sy}, TreeF f L lo i → IsSy d L i s → foL N z f L i = foS N z d s := by
  induction f with
  | zero => intro d L lo i s h; exact h.elim
  | succ f ih =>
    intro d L lo i s hT hI
    cases d with
    | zero => exact hI.elim
    | succ d =>
      obtain ⟨h1, h2, h3, h4⟩ := hI
      rw [foL, foS, hN _ s _ h2 (fun e => by rw [shape_number hT.2.1 e]; rfl)]
      rw [map_is (foL N z f L) (foS N z d) h3 fun j hj => ?_]
      obtain ⟨lo', hT'⟩ := forest_mem _ hT.2.2 ((L.getD i noPt).subs.getD j 0) (by
        generalize (L.getD i noPt).subs = q at *
        rw [List.getD_eq_getElem?_getD, List.getElem?_eq_getElem (by omega)]
        exact List.getElem_mem _)
      exact ih hT' (h4 j hj)
/-- Printing. -/
def nPlain (t : Tok) (l : List (List UInt8)) : List UInt8 := if t.k = 110 then tensL (decVal t.text) else overL t.text l
theorem fair_plain : Fair nPlain := fun t s l h _ => by
  obtain ⟨h1, h2⟩ := h
  unfold nPlain tokS
  rw [h1]
  by_cases h : s.k = 110
  · rw [if_pos h] at h2 ⊢; rw [if_pos h, h2]
  · rw [if_neg h] at h2 ⊢; rw [if_neg h, h2]
theorem plain_fo (f : Nat) (L : List Pt) : ∀ i, plainF f L i = foL nPlain [] f L i := by
  induction f with
  | zero => intro i; rfl
  | succ f ih => intro i; rw [plainF, foL, nPlain, List.map_congr_left fun j _ => ih j]
theorem plainS_fo (d : Nat) : ∀ s, plainS d s = foS nPlain [] d s := by
  induction d with
  | zero => intro s; rfl
  | succ d ih => intro s; rw [plainS, foS, nPlain, List.map_congr_left fun j _ => ih j]; rfl
/-- Depth. -/
def nDep (_ : Tok) (l : List Nat) : Nat := l.foldl max 0 + 1
theorem dep_fo (f : Nat) (L : List Pt) : ∀ i, dep f L i = foL nDep 1 f L i := by
  induction f with
  | zero => intro i; rfl
  | succ f ih =>
    intro i
    rw [dep, foL, nDep, foldMax, List.foldl_map]
    have : ∀ (js : List Nat) (m : Nat), List.foldl (fun m j => max m (dep f L j)) m js = List.foldl (fun x y => max x (foL nDep 1 f L y)) m js := by
      intro js
      induction js with
      | nil => intro m; rfl
      | cons j js ihj => intro m; rw [List.foldl_cons, List.foldl_cons, ih j]; exact ihj _
    rw [this]
def dS (d : Nat) (s : Sy) : Nat := foS nDep 1 d s
/-- Own names. -/
def nOwn (good : List UInt8 → Bool) (t : Tok) (l : List Bool) : Bool := if t.k = 111 then good t.text else l.all id
theorem fair_own (good : List UInt8 → Bool) : Fair (nOwn good) := fun t s l h _ => by
  obtain ⟨h1, h2⟩ := h
  unfold nOwn tokS
  rw [h1]
  by_cases h : s.k = 111
  · rw [if_neg (by omega)] at h2; rw [if_pos h, if_pos h, h2]
  · rw [if_neg h, if_neg h]
theorem firstOf_none {F : Nat → Option Nat} {G : Nat → Bool} (h : ∀ j, F j = none ↔ G j = true) (js : List Nat) : firstOf F js = none ↔ (js.map G).all id = true := by
  induction js with
  | nil => simp [firstOf]
  | cons j js ih =>
    rw [firstOf]
    cases hF : F j with
    | some p =>
      have : ¬ G j = true := fun e => by rw [(h j).2 e] at hF; cases hF
      simp [this]
    | none =>
      have := (h j).1 hF
      simp only [List.map_cons, List.all_cons, this, id, Bool.true_and]
      exact ih
theorem res_fo {bad : Tok → Bool} {good : List UInt8 → Bool} (hb : ∀ t, t.k = 111 → bad t = !good t.text) (f : Nat) (L : List Pt) : ∀ i, resF bad f L i = none ↔ foL (nOwn good) true f L i = true := by
  induction f with
  | zero => intro i; simp [resF, foL]
  | succ f ih =>
    intro i
    rw [resF, foL, nOwn]
    by_cases h : (L.getD i noPt).tok.k = 111
    · rw [if_pos h, if_pos h, hb _ h]
      cases good (L.getD i noPt).tok.text <;> simp
    · rw [if_neg h, if_neg h]
      exact firstOf_none (fun j => ih j) _
def ownS (good : List UInt8 → Bool) (d : Nat) (s : Sy) : Bool := foS (nOwn good) true d s
/-- Types. -/
def nTy (xs : List Itm) (its : List UInt8) (t : Tok) (l : List UInt8) : UInt8 := if l.contains 0 then 0 else UInt8.ofNat (tyCase xs its t l)
theorem fair_ty (xs : List Itm) (its : List UInt8) : Fair (nTy xs its) := fun t s l h _ => by
  obtain ⟨h1, h2⟩ := h
  unfold nTy tokS tyCase
  rw [h1]
  by_cases h : s.k = 110
  · simp only [if_pos h]
  · rw [if_neg h] at h2; rw [h2]
theorem ty_fo (xs : List Itm) (its : List UInt8) (f : Nat) (L : List Pt) : ∀ i, tyOf xs its L f i = foL (nTy xs its) 0 f L i := by
  induction f with
  | zero => intro i; rfl
  | succ f ih => intro i; rw [tyOf, foL, nTy, List.map_congr_left fun j _ => ih j]
def tyS (xs : List Itm) (its : List UInt8) (d : Nat) (s : Sy) : UInt8 := foS (nTy xs its) 0 d s
/-- Names alone count. -/
theorem letIx_names {xs ys : List Itm} (h : xs.map Itm.name = ys.map Itm.name) (s : List UInt8) : ∀ k, letIx xs s k = letIx ys s k := by
  induction xs generalizing ys with
  | nil =>
    intro k
    cases ys with
    | nil => rfl
    | cons => simp at h
  | cons x xs ih =>
    intro k
    cases ys with
    | nil => simp at h
    | cons y ys =>
      simp at h
      cases k with
      | zero => rfl
      | succ k => rw [letIx, letIx, h.1, ih h.2 k]
theorem nTy_names {xs ys : List Itm} (h : xs.map Itm.name = ys.map Itm.name) (its : List UInt8) : nTy xs its = nTy ys its := by
  funext t l
  unfold nTy tyCase
  rw [letIx_names h]
/-- The items as the plain functions want them. -/
def itmOf (s : SyI) : Itm := ⟨s.name, s.allow, 0, 0, 0, 0⟩
theorem PolIs.names {d : Nat} {L : List Pt} {xs : List Itm} : ∀ {pol : List SyI} {fr : Nat}, PolIs d L xs pol fr → xs.map Itm.name = (pol.map itmOf).map Itm.name := by
  induction xs with
  | nil => intro pol fr h; cases pol with
    | nil => rfl
    | cons => exact h.elim
  | cons x xs ih => intro pol fr h; cases pol with
    | nil => exact h.elim
    | cons s pol => simp only [List.map_cons, h.1, ih h.2.2.2.2.2]; rfl
/-- Is there not too much? -/
def manyS (d : Nat) : List SyI → Nat → Nat → Nat → Bool
  | [], _, _, _ => true
  | s :: r, lets, i, fr =>
    !decide (10 < lets + (if s.name == [] then 0 else 1) ∨ 20 < i + 1 - (lets + (if s.name == [] then 0 else 1)) ∨ 200 < fr + cS d s.sy ∨ 20 < dS d s.sy) && manyS d r (lets + (if s.name == [] then 0 else 1)) (i + 1) (fr + cS d s.sy)
def goodIn (xs : List Itm) (i : Nat) (s : List UInt8) : Bool := decide (0 ≤ letIx xs s i)
def namesS (xs : List Itm) (d : Nat) : List SyI → Nat → Bool
  | [], _ => true
  | s :: r, i => !decide (s.name ≠ [] ∧ 0 ≤ letIx xs s.name i) && (ownS (goodIn xs i) d s.sy && namesS xs d r (i + 1))
def typesS (xs : List Itm) (d : Nat) : List SyI → List UInt8 → Bool
  | [], _ => true
  | s :: r, its => !decide ((tyS xs its d s.sy).toNat = 0 ∨ (s.name = [] ∧ (tyS xs its d s.sy).toNat ≠ 116)) && typesS xs d r (its ++ [tyS xs its d s.sy])
theorem many_same {d : Nat} {L : List Pt} {xs : List Itm} : ∀ {pol : List SyI} {fr fr' : Nat} (lets i : Nat), TreesAt L xs fr' → PolIs d L xs pol fr → (manyAt L xs lets i = none ↔ manyS d pol lets i fr = true) := by
  induction xs with
  | nil => intro pol fr fr' lets i _ h; cases pol with
    | nil => simp [manyAt, manyS]
    | cons => exact h.elim
  | cons x xs ih => intro pol fr fr' lets i hT h; cases pol with
    | nil => exact h.elim
    | cons s pol =>
      obtain ⟨h1, h2, h3, h4, h5, h6⟩ := h
      have hd : dep (x.top + 1) L x.top = dS d s.sy := by rw [dep_fo]; exact fo_same (fun _ _ _ _ _ => rfl) _ hT.1.fit h3
      have ih' := ih (pol := pol) (fr := x.parts) (lets + (if s.name == [] then 0 else 1)) (i + 1) hT.2.2 h6
      rw [manyAt, manyS, hd, h1, h5]
      rw [h5] at ih'
      by_cases hc : 10 < lets + (if s.name == [] then 0 else 1) ∨ 20 < i + 1 - (lets + (if s.name == [] then 0 else 1)) ∨ 200 < fr + cS d s.sy ∨ 20 < dS d s.sy
      · rw [if_pos hc, decide_eq_true hc]; simp
      · rw [if_neg hc, decide_eq_false hc]; simpa using ih'
theorem names_same {d : Nat} {L : List Pt} {ys : List Itm} (hL : PartsOK L) {xs : List Itm} : ∀ {pol : List SyI} {fr fr' : Nat} (i : Nat), TreesAt L xs fr' → PolIs d L xs pol fr → (namesAt ys L xs fr' i = none ↔ namesS ys d pol i = true) := by
  induction xs with
  | nil => intro pol fr fr' i _ h; cases pol with
    | nil => simp [namesAt, namesS]
    | cons => exact h.elim
  | cons x xs ih => intro pol fr fr' i hT h; cases pol with
    | nil => exact h.elim
    | cons s pol =>
      obtain ⟨h1, h2, h3, h4, h5, h6⟩ := h
      have hr : resF (badOf ys i) (x.top + 1) L x.top = none ↔ ownS (goodIn ys i) d s.sy = true := by
        rw [res_fo (good := goodIn ys i) (fun t _ => by unfold badOf goodIn; by_cases h : 0 ≤ letIx ys t.text i <;> simp [h] <;> omega), fo_same (fair_own _) _ hT.1.fit h3]; rfl
      have ih' := ih (pol := pol) (fr := x.parts) (i + 1) hT.2.2 h6
      have e := (TreeF.res (xs := ys) (n := i) hL.up hT.1.fit).1
      rw [← h4] at ih'
      rw [namesAt, ← h4, e, namesS, h1]
      by_cases hc : s.name ≠ [] ∧ 0 ≤ letIx ys s.name i
      · rw [if_pos hc, decide_eq_true hc]; simp
      · rw [if_neg hc, decide_eq_false hc]
        simp only [Bool.not_false, Bool.true_and, Bool.and_eq_true, Option.or_eq_none_iff]
        rw [hr, ih']
theorem types_same {d : Nat} {L : List Pt} {ys zs : List Itm} (hz : ys.map Itm.name = zs.map Itm.name) {xs : List Itm} : ∀ {pol : List SyI} {fr fr' : Nat} (its : List UInt8), TreesAt L xs fr' → PolIs d L xs pol fr → (typesAt ys L xs its = none ↔ typesS zs d pol its = true) := by
  induction xs with
  | nil => intro pol fr fr' its _ h; cases pol with
    | nil => simp [typesAt, typesS]
    | cons => exact h.elim
  | cons x xs ih => intro pol fr fr' its hT h; cases pol with
    | nil => exact h.elim
    | cons s pol =>
      obtain ⟨h1, h2, h3, h4, h5, h6⟩ := h
      have ht : tyOf ys its L (x.top + 1) x.top = tyS zs its d s.sy := by
        rw [ty_fo, fo_same (fair_ty _ _) _ hT.1.fit h3, nTy_names hz]; rfl
      rw [typesAt, typesS, ht, h1]
      by_cases hc : (tyS zs its d s.sy).toNat = 0 ∨ (s.name = [] ∧ (tyS zs its d s.sy).toNat ≠ 116)
      · rw [if_pos hc, decide_eq_true hc]; simp
      · rw [if_neg hc, decide_eq_false hc]
        simp only [Bool.not_false, Bool.true_and]
        exact ih _ hT.2.2 h6
theorem namesS_names {xs ys : List Itm} (h : xs.map Itm.name = ys.map Itm.name) (d : Nat) (pol : List SyI) : ∀ i, namesS xs d pol i = namesS ys d pol i := by
  induction pol with
  | nil => intro i; rfl
  | cons s pol ih =>
    intro i
    have e : goodIn xs i = goodIn ys i := by funext t; unfold goodIn; rw [letIx_names h]
    rw [namesS, namesS, letIx_names h, e, ih]
/-- A policy of these items is one. -/
def OkS (d : Nat) (pol : List SyI) : Prop := manyS d pol 0 0 0 = true ∧ namesS (pol.map itmOf) d pol 0 = true ∧ typesS (pol.map itmOf) d pol [] = true
theorem verdict_same {d : Nat} {ts : List Tok} {R : AllR} (ok : R.ok = true) {pol : List SyI} (hL : PartsOK R.L) (hT : TreesAt R.L R.xs 0) (hP : PolIs d R.L R.xs pol 0) : (verdictOf ts R = (0, 0) ↔ OkS d pol) ∧ ((verdictOf ts R).1 = 0 → OkS d pol) := by
  have h1 := many_same 0 0 hT hP
  have h2 := names_same (ys := R.xs) hL 0 hT hP
  rw [namesS_names hP.names] at h2
  have h3 := types_same hP.names [] hT hP
  unfold verdictOf OkS
  rw [if_neg (by rw [ok]; simp)]
  cases e1 : manyAt R.L R.xs 0 0 with
  | some p =>
    have : ¬ manyS d pol 0 0 0 = true := fun h => by rw [h1.2 h] at e1; cases e1
    simp [this]
  | none =>
    have k1 := h1.1 e1
    simp only []
    cases e2 : namesAt R.xs R.L R.xs 0 0 with
    | some p =>
      have : ¬ namesS (pol.map itmOf) d pol 0 = true := fun h => by rw [h2.2 h] at e2; cases e2
      simp [this]
    | none =>
      have k2 := h2.1 e2
      simp only []
      cases e3 : typesAt R.xs R.L R.xs [] with
      | some p =>
        have : ¬ typesS (pol.map itmOf) d pol [] = true := fun h => by rw [h3.2 h] at e3; cases e3
        simp [this]
      | none =>
        have k3 := h3.1 e3
        simp [k1, k2, k3]
/-- What is printed. -/
def headS (s : SyI) : List UInt8 := if s.name = [] then (if s.allow then wsAllow else wsDeny) else wsLet ++ s.name ++ wsEq
def printS (d : Nat) (pol : List SyI) : List UInt8 := pol.flatMap fun s => headS s ++ plainS d s.sy ++ [59, 10]
theorem print_same {d : Nat} {L : List Pt} {xs : List Itm} : ∀ {pol : List SyI} {fr fr' : Nat}, TreesAt L xs fr' → PolIs d L xs pol fr → printL L xs = printS d pol := by
  induction xs with
  | nil => intro pol fr fr' _ h; cases pol with
    | nil => rfl
    | cons => exact h.elim
  | cons x xs ih => intro pol fr fr' hT h; cases pol with
    | nil => exact h.elim
    | cons s pol =>
      obtain ⟨h1, h2, h3, h4, h5, h6⟩ := h
      have e : itemL L x = headS s ++ plainS d s.sy ++ [59, 10] := by
        unfold itemL headL headS
        rw [h1, h2, plain_fo, plainS_fo, fo_same fair_plain _ hT.1.fit h3]
      have := ih hT.2.2 h6
      unfold printL printS at *
      rw [List.flatMap_cons, List.flatMap_cons, e, this]
/-- The words of what is printed. -/
theorem LX.nl {s : List UInt8} {ws : List (Nat × List UInt8)} (h : LX s ws) : LX (10 :: s) ws := h.blank (by decide)
theorem LX.semi {s : List UInt8} {ws : List (Nat × List UInt8)} (h : LX s ws) : LX (59 :: s) ((115, [59]) :: ws) := h.sign (by decide)
def NameOK (s : SyI) : Prop := s.name = [] ∨ ((∀ c ∈ s.name, isL c = true) ∧ isKw s.name = false ∧ s.name.length ≤ 8 ∧ s.allow = false)
theorem print_lex {d : Nat} (pol : List SyI) : (∀ s ∈ pol, ShS d s.sy ∧ NameOK s) → LX (printS d pol) (polW (pol.map fun s => (s, wordsF d s.sy))) := by
  induction pol with
  | nil => intro _; exact LX.nil
  | cons s pol ih =>
    intro h
    obtain ⟨hs, hn⟩ := h s (by simp)
    have hr := ih fun s hs => h s (by simp [hs])
    have e : printS d (s :: pol) = headS s ++ (plainS d s.sy ++ (59 :: 10 :: printS d pol)) := by unfold printS; simp
    have e2 : polW ((s :: pol).map fun s => (s, wordsF d s.sy)) = hW s ++ (wordsF d s.sy ++ ((115, [59]) :: polW (pol.map fun s => (s, wordsF d s.sy)))) := by simp [polW, itemW]
    rw [e, e2]
    have hc := plain_lex d hs hr.nl.semi (off_cons (by decide) _)
    unfold headS hW
    by_cases hk : s.name = []
    · rw [if_pos hk, if_pos hk]
      have h2 := (hc.sp.kw (off_blank _) wIf (by decide)).sp
      cases s.allow with
      | true => exact h2.kw (off_blank _) wAllow (by decide)
      | false => exact h2.kw (off_blank _) wDeny (by decide)
    · rw [if_neg hk, if_neg hk]
      rcases hn with hn | ⟨n1, n2, n3, _⟩
      · exact absurd hn hk
      have h2 : LX (61 :: 32 :: (plainS d s.sy ++ (59 :: 10 :: printS d pol))) _ := hc.sp.sign (by decide)
      have h3 := (h2.sp.letters (off_blank _) hk n1 (.inr ⟨n2, n3, rfl⟩)).sp.kw (off_blank _) wLet (by decide)
      rw [show wsLet ++ s.name ++ wsEq ++ (plainS d s.sy ++ (59 :: 10 :: printS d pol)) = wLet ++ (32 :: (s.name ++ (32 :: 61 :: 32 :: (plainS d s.sy ++ (59 :: 10 :: printS d pol))))) from by simp [wsLet, wsEq, wLet]]
      exact h3
end Go.Proofs.YtfkdailfcmnjlaaGreatDoor

namespace Go.Proofs.YtfkdailfcmnjlaaGreatDoor
open Go Go.RowKit
set_option maxRecDepth 100000

/-- What is known of a text that has a policy's words. -/
theorem read_pol {d : Nat} {l : List UInt8} {pol : List (SyI × List (Nat × List UInt8))} (hl : l.length ≤ 1000) (hx : LX l (polW pol)) (hp : ∀ p ∈ pol, RdS d 6 p.2 p.1.sy ∧ (p.1.name ≠ [] → p.1.allow = false)) :
    TreesAt (readOf l).2.1 (readOf l).2.2 0 ∧ PolIs d (readOf l).2.1 (readOf l).2.2 (pol.map Prod.fst) 0 ∧ (OkS d (pol.map Prod.fst) → (readOf l).1 = (0, 0)) := by
  obtain ⟨ts, h1, h2⟩ := lex_lx l (l.length + 1) 0 _ (hx _ (by simp))
  unfold readOf
  rw [if_neg (by omega), h1]
  simp only []
  obtain ⟨r1, r2, r3, r4, r5⟩ := lex_ok l (by omega) (l.length + 1) 0 _ (Nat.zero_le _) (by omega) h1
  obtain ⟨hwo, hwl⟩ := lex_words l (l.length + 1) 0 _ (Nat.zero_le _) (by omega) h1
  obtain ⟨R, hR⟩ := parse_total (F := 16 * ts.length + 8) (Nat.le_refl _) r4 (ts.length + 1) 0 [] [] (by omega)
  have e : allOf ts = R := by unfold allOf; rw [hR]; rfl
  rw [e]
  obtain ⟨m1, m2⟩ := mt_map h2
  obtain ⟨ok, new, xs', q1, q2, q3⟩ := parse_got pol _ 0 [] [] R hp m1 m2 hR
  obtain ⟨k1, k2, k3⟩ := all_known hwo (by omega) hR ok
  rw [List.nil_append] at q2
  subst q2
  exact ⟨k1, q3, fun h => (verdict_same ok k2 k1 q3).1.2 h⟩

/-- The tree of a part. -/
def syOf (L : List Pt) : Nat → Nat → Sy
  | 0, _ => noSy
  | f + 1, i => ⟨(L.getD i noPt).tok.k, (L.getD i noPt).tok.text, (L.getD i noPt).subs.map (syOf L f)⟩
/-- The words there are. -/
def TokG (t : Tok) : Prop := TokW t ∧ (t.k = 110 → decVal t.text ≤ 9223372036854775807) ∧ (t.k = 111 → t.text ≠ [] ∧ (∀ c ∈ t.text, isL c = true) ∧ isKw t.text = false ∧ t.text.length ≤ 8)
theorem kw_leaf : ∀ x ∈ spell.drop 11, alone ⟨107, x, 0⟩ = true → x ∈ leafWs := by decide
theorem kw_two : ∀ x ∈ spell.drop 11, ∀ n ∈ [0, 1, 3, 4], joins n ⟨107, x, 0⟩ = true → (107, x) ∈ twoWs := by decide
theorem sg_two : ∀ x ∈ (spell.drop 3).take 8, ∀ n ∈ [0, 1, 3, 4], joins n ⟨115, x, 0⟩ = true → (115, x) ∈ twoWs := by decide
theorem sg_not : ∀ x ∈ (spell.drop 3).take 8, x ≠ wNot ∧ x ≠ wIf := by decide
theorem alone_pl (t : Tok) : alone t = alone ⟨t.k, t.text, 0⟩ := rfl
theorem joins_pl (n : Nat) (t : Tok) : joins n t = joins n ⟨t.k, t.text, 0⟩ := rfl
theorem word_107 {t : Tok} {x : List UInt8} (hW : TokW t) (h : isW t x = true) (hx : x = wNot ∨ x = wIf) : t.k = 107 ∧ t.text = x := by
  unfold isW at h
  simp only [Bool.and_eq_true, Bool.or_eq_true, beq_iff_eq] at h
  obtain ⟨hk, ht⟩ := h
  refine ⟨?_, ht⟩
  rcases hW with h | h | h | ⟨h, _⟩ | ⟨h, hm⟩
  · omega
  · omega
  · omega
  · exact h
  · exfalso
    have := sg_not _ hm
    rw [ht] at this
    rcases hx with rfl | rfl
    · exact this.1 rfl
    · exact this.2 rfl
theorem tree_sy {L : List Pt} (hG : ∀ k, k < L.length → TokG (L.getD k noPt).tok) (f : Nat) : ∀ {lo i : Nat}, TreeF f L lo i → IsSy f L i (syOf L f i) ∧ ShS f (syOf L f i) ∧ cS f (syOf L f i) = i + 1 - lo := by
  have hcnt : ∀ (f : Nat) {lo i : Nat}, TreeF f L lo i → cS f (syOf L f i) = cnt f L i := by
    intro f
    induction f with
    | zero => intro lo i h; exact h.elim
    | succ f ih =>
      intro lo i h
      have hsub := forest_mem _ h.2.2
      rw [syOf, cS, cnt]
      have : ∀ js : List Nat, (∀ j ∈ js, cS f (syOf L f j) = cnt f L j) → ((js.map (syOf L f)).map (cS f)).sum = sumOf (cnt f L) js := by
        intro js
        induction js with
        | nil => intro _; rfl
        | cons j js ihj =>
          intro hj
          have := ihj fun q hq => hj q (by simp [hq])
          simp only [List.map_cons, List.sum_cons, sumOf]
          rw [hj j (by simp), this]
      simp only []
      rw [this _ fun j hj => ?_]
      obtain ⟨lo', hT⟩ := hsub j hj
      exact ih hT
  have key : ∀ (f : Nat) {lo i : Nat}, TreeF f L lo i → IsSy f L i (syOf L f i) ∧ ShS f (syOf L f i) := by
    intro f
    induction f with
    | zero => intro lo i h; exact h.elim
    | succ f ih =>
      intro lo i h
      have hsub := forest_mem _ h.2.2
      obtain ⟨hw, hn, ho⟩ := hG i h.1
      rw [syOf]
      refine ⟨⟨h.1, ⟨rfl, by split <;> rfl⟩, by simp, fun j hj => ?_⟩, ?_, fun c hc => ?_⟩
      · have hj' : j < (L.getD i noPt).subs.length := by simpa using hj
        have e : ((L.getD i noPt).subs.map (syOf L f)).getD j noSy = syOf L f ((L.getD i noPt).subs.getD j 0) := by
          generalize (L.getD i noPt).subs = q at *
          simp [List.getD_eq_getElem?_getD, List.getElem?_map, List.getElem?_eq_getElem hj']
        show IsSy f L _ (((L.getD i noPt).subs.map (syOf L f)).getD j noSy)
        rw [e]
        obtain ⟨lo', hT⟩ := hsub ((L.getD i noPt).subs.getD j 0) (by
          generalize (L.getD i noPt).subs = q at *
          rw [List.getD_eq_getElem?_getD, List.getElem?_eq_getElem hj']
          exact List.getElem_mem _)
        exact (ih hT).1
      · show (_ ∨ _ ∨ _ ∨ _)
        rcases h.2.1 with ⟨ha, hs⟩ | ⟨hx, hl⟩ | ⟨hx, hl⟩ | ⟨n, hc, hj, hl⟩
        · left
          refine ⟨by rw [hs]; rfl, ?_⟩
          by_cases h1 : (L.getD i noPt).tok.k = 110
          · exact .inl ⟨h1, hn h1⟩
          by_cases h2 : (L.getD i noPt).tok.k = 111
          · exact .inr (.inl ⟨h2, ho h2⟩)
          · right; right
            rw [alone_pl] at ha
            rcases hw with h | h | h | ⟨h, hm⟩ | ⟨h, hm⟩
            · exact absurd h h1
            · exact absurd h h2
            · rw [h] at ha; simp [alone] at ha
            · rw [h] at ha; exact ⟨h, kw_leaf _ hm ha⟩
            · rw [h] at ha; simp [alone] at ha
        · obtain ⟨e1, e2⟩ := word_107 hw hx (.inl rfl)
          exact .inr (.inl ⟨e1, e2, by simpa using hl⟩)
        · obtain ⟨e1, e2⟩ := word_107 hw hx (.inr rfl)
          exact .inr (.inr (.inl ⟨e1, e2, by simpa using hl⟩))
        · right; right; right
          refine ⟨?_, by simpa using hl⟩
          have hcn : n ∈ [0, 1, 3, 4] := by unfold isChain at hc; simp; omega
          rw [joins_pl] at hj
          rcases hw with h | h | h | ⟨h, hm⟩ | ⟨h, hm⟩
          · rw [h] at hj; simp [joins] at hj
          · rw [h] at hj; simp [joins] at hj
          · rw [h] at hj; simp [joins] at hj
          · rw [h] at hj ⊢; exact kw_two _ hm n hcn hj
          · rw [h] at hj ⊢; exact sg_two _ hm n hcn hj
      · obtain ⟨j, hj, rfl⟩ := List.mem_map.1 hc
        obtain ⟨lo', hT⟩ := hsub j hj
        exact (ih hT).2
  intro lo i h
  exact ⟨(key f h).1, (key f h).2, by rw [hcnt f h]; exact h.cnt⟩
/-- The own names that the cutter of words gives. -/
theorem lex_own (l : List UInt8) (f : Nat) : ∀ (a : Nat) (ts : List Tok), lex f l a = (ts, none) → ∀ t ∈ ts, t.k = 111 → t.text ≠ [] ∧ (∀ c ∈ t.text, isL c = true) ∧ isKw t.text = false ∧ t.text.length ≤ 8 := by
  induction f with
  | zero => intro a ts h; simp [lex] at h; subst h; simp
  | succ f ih =>
    intro a ts h
    rw [lex] at h
    split at h
    · simp at h; subst h; simp
    · rw [wordAt_drop] at h
      cases hw : wordS (l.drop (stop isB l a)) with
      | none => rw [hw] at h; simp at h
      | some w =>
        rw [hw] at h
        simp only [Option.map_some] at h
        simp only [Prod.mk.injEq] at h
        obtain ⟨rfl, h2⟩ := h
        have ih' := ih _ _ (Prod.ext rfl h2)
        intro t ht hk
        rcases List.mem_cons.1 ht with rfl | ht
        · generalize l.drop (stop isB l a) = s at hw
          unfold wordS at hw
          simp only [] at hk ⊢
          split at hw
          · split at hw
            · cases hw
            · simp at hw; rw [← hw] at hk; simp at hk
          · split at hw
            · rename_i hne
              split at hw
              · simp at hw; rw [← hw] at hk; simp at hk
              · rename_i hkw
                split at hw
                · rename_i hlen
                  simp at hw; subst hw
                  refine ⟨hne, fun c hc => ?_, by simpa using hkw, hlen⟩
                  have := List.all_takeWhile (l := s) (p := isL)
                  exact List.all_eq_true.1 this c hc
                · cases hw
            · split at hw
              · cases hw
              · split at hw
                · split at hw
                  · simp at hw; rw [← hw] at hk; simp at hk
                  · simp at hw; rw [← hw] at hk; simp at hk
                · split at hw
                  · simp at hw; rw [← hw] at hk; simp at hk
                  · cases hw
        · exact ih' t ht hk
theorem tail_it {F : Nat} {ts : List Tok} {i : Nat} {L : List Pt} {x : Itm} {r : ItR} (h : itemTail F ts i L x = some r) (ok : r.ok = true) : r.it.name = x.name ∧ r.it.allow = x.allow := by
  unfold itemTail at h
  split at h
  · cases h
  · split at h
    · split at h
      · simp at h; subst h; exact ⟨rfl, rfl⟩
      · simp [itFail] at h; subst h; simp at ok
    · simp [itFail] at h; subst h; simp at ok
theorem item_own {F : Nat} {ts : List Tok} {i : Nat} {L : List Pt} {r : ItR} (h : itemP F ts i L = some r) (ok : r.ok = true) : r.it.name = [] ∨ ((∃ t ∈ ts, t.k = 111 ∧ r.it.name = t.text) ∧ r.it.allow = false) := by
  unfold itemP at h
  split at h
  · split at h
    · rename_i hk
      split at h
      · obtain ⟨h1, h2⟩ := tail_it h ok
        have hm := (inside (ts := ts) (i := i + 1) fun e => by rw [e] at hk; exact absurd hk (by decide)).2
        exact .inr ⟨⟨_, hm, hk, h1⟩, h2⟩
      · simp [itFail] at h; subst h; simp at ok
    · simp [itFail] at h; subst h; simp at ok
  · split at h
    · split at h
      · exact .inl (tail_it h ok).1
      · simp [itFail] at h; subst h; simp at ok
    · simp [itFail] at h; subst h; simp at ok
theorem parse_own {F : Nat} {ts : List Tok} (g : Nat) : ∀ (i : Nat) (L : List Pt) (xs : List Itm) (R : AllR), (∀ x ∈ xs, x.name = [] ∨ ((∃ t ∈ ts, t.k = 111 ∧ x.name = t.text) ∧ x.allow = false)) → parseAll F ts g i L xs = some R → R.ok = true → ∀ x ∈ R.xs, x.name = [] ∨ ((∃ t ∈ ts, t.k = 111 ∧ x.name = t.text) ∧ x.allow = false) := by
  induction g with
  | zero => intro i L xs R _ h; rw [parseAll] at h; simp at h
  | succ g ih =>
    intro i L xs R hT h ok
    by_cases hk : (tokAt ts i).k = 101
    · have := parse_end h hk; subst this; exact hT
    · rw [parseAll, if_neg hk] at h
      cases hr : itemP F ts i L with
      | none => rw [hr] at h; simp at h
      | some r =>
        rw [hr] at h
        simp only at h
        by_cases okr : r.ok = true
        · rw [if_pos okr] at h
          refine ih r.i r.L (xs ++ [r.it]) R (fun x hx => ?_) h ok
          rcases List.mem_append.1 hx with hx | hx
          · exact hT x hx
          · rw [List.mem_singleton] at hx; subst hx; exact item_own hr okr
        · rw [if_neg okr] at h; simp at h; subst h; simp at ok
theorem pol_of {L : List Pt} {d : Nat} (hG : ∀ k, k < L.length → TokG (L.getD k noPt).tok) (hd : L.length ≤ d) {xs : List Itm} : ∀ {fr : Nat}, TreesAt L xs fr → PolIs d L xs (xs.map fun x => ⟨x.name, x.allow, syOf L d x.top⟩) fr ∧ ∀ x ∈ xs, ShS d (syOf L d x.top) := by
  induction xs with
  | nil => intro fr h; exact ⟨h.symm, by simp⟩
  | cons x xs ih =>
    intro fr h
    have hT := h.1.fit
    have hT' := hT.upto (g := d) (by have := hT.lt; omega)
    obtain ⟨h1, h2, h3⟩ := tree_sy hG d hT'
    obtain ⟨i1, i2⟩ := ih h.2.2
    refine ⟨⟨rfl, rfl, h1, h.2.1, by have := hT.le; rw [h3, ← h.2.1]; omega, i1⟩, fun y hy => ?_⟩
    rcases List.mem_cons.1 hy with rfl | hy
    · exact h2
    · exact i2 y hy
/-- A text that was read is a policy that was meant. -/
theorem known_pol (l : List UInt8) (h0 : (readOf l).1.1 = 0) : ∃ (d : Nat) (pol : List SyI), TreesAt (readOf l).2.1 (readOf l).2.2 0 ∧ PolIs d (readOf l).2.1 (readOf l).2.2 pol 0 ∧ OkS d pol ∧ ∀ s ∈ pol, ShS d s.sy ∧ NameOK s := by
  unfold readOf at *
  by_cases h1 : 1000 < l.length
  · rw [if_pos h1] at h0; simp at h0
  · rw [if_neg h1] at h0 ⊢
    cases hx : (lex (l.length + 1) l 0).2 with
    | some p => rw [hx] at h0; simp at h0
    | none =>
      rw [hx] at h0
      simp only [] at h0 ⊢
      have hlex : lex (l.length + 1) l 0 = ((lex (l.length + 1) l 0).1, none) := by rw [← hx]
      obtain ⟨r1, r2, r3, r4, r5⟩ := lex_ok l (by omega) (l.length + 1) 0 _ (Nat.zero_le _) (by omega) hlex
      obtain ⟨hwo, hwl⟩ := lex_words l (l.length + 1) 0 _ (Nat.zero_le _) (by omega) hlex
      have hown := lex_own l _ 0 _ hlex
      generalize (lex (l.length + 1) l 0).1 = ts at *
      obtain ⟨R, hR⟩ := parse_total (F := 16 * ts.length + 8) (Nat.le_refl _) r4 (ts.length + 1) 0 [] [] (by omega)
      have e : allOf ts = R := by unfold allOf; rw [hR]; rfl
      rw [e] at h0 ⊢
      have ok : R.ok = true := by
        cases hk : R.ok with
        | true => rfl
        | false => unfold verdictOf at h0; rw [if_pos hk] at h0; simp at h0
      obtain ⟨k1, k2, k3⟩ := all_known hwo (by omega) hR ok
      obtain ⟨_, k4, _, _⟩ := parse_trees hwo.sorted _ 0 [] [] R rfl ⟨by simp, by simp, by simp⟩ (by simp) (by omega) hR ok
      have k5 := parse_own _ 0 [] [] R (by simp) hR ok
      have hG : ∀ k, k < R.L.length → TokG (R.L.getD k noPt).tok := fun k hk => ⟨k3 k hk, fun hn => ((r3 _ (k4.2.2 k hk)).2 hn).2, fun ho => hown _ (k4.2.2 k hk) ho⟩
      obtain ⟨q1, q2⟩ := pol_of (d := R.L.length) hG (Nat.le_refl _) k1
      refine ⟨R.L.length, _, k1, q1, (verdict_same ok k2 k1 q1).2 h0, fun s hs => ?_⟩
      obtain ⟨x, hx, rfl⟩ := List.mem_map.1 hs
      refine ⟨q2 x hx, ?_⟩
      rcases k5 x hx with h | ⟨⟨t, ht, hk, h⟩, ha⟩
      · exact .inl h
      · obtain ⟨o1, o2, o3, o4⟩ := hown t ht hk
        exact .inr ⟨by rw [h]; exact o2, by rw [h]; exact o3, by rw [h]; exact o4, ha⟩
/-- What a policy that was meant gives when its text is read. -/
theorem text_pol {d : Nat} {l : List UInt8} {pol : List (SyI × List (Nat × List UInt8))} (hl : l.length ≤ 1000) (hx : LX l (polW pol)) (hp : ∀ p ∈ pol, RdS d 6 p.2 p.1.sy ∧ (p.1.name ≠ [] → p.1.allow = false)) (ok : OkS d (pol.map Prod.fst)) : (readOf l).1 = (0, 0) ∧ textOf l = printS d (pol.map Prod.fst) := by
  obtain ⟨h1, h2, h3⟩ := read_pol hl hx hp
  have h4 := h3 ok
  refine ⟨h4, ?_⟩
  unfold textOf
  rw [if_pos (by rw [h4]), print_same h1 h2]
/-- The words of a plain form are those of the policy. -/
theorem printed_rd {d : Nat} {pol : List SyI} (h : ∀ s ∈ pol, ShS d s.sy ∧ NameOK s) : ∀ p ∈ pol.map (fun s => (s, wordsF d s.sy)), RdS d 6 p.2 p.1.sy ∧ (p.1.name ≠ [] → p.1.allow = false) := by
  intro p hp
  obtain ⟨s, hs, rfl⟩ := List.mem_map.1 hp
  obtain ⟨h1, h2⟩ := h s hs
  obtain ⟨r1, r2⟩ := plain_rd d h1
  refine ⟨r1.out r2 (Nat.le_refl 6), fun hn => ?_⟩
  rcases h2 with h | ⟨_, _, _, h⟩
  · exact absurd h hn
  · exact h
theorem fst_map {pol : List SyI} (W : Sy → List (Nat × List UInt8)) : (pol.map fun s => (s, W s.sy)).map Prod.fst = pol := by
  rw [List.map_map]; exact List.map_id pol
/-- A plain form is its own. -/
theorem text_again (l : List UInt8) (h0 : (readOf l).1.1 = 0) (hl : (textOf l).length ≤ 1000) : (readOf (textOf l)).1 = (0, 0) ∧ textOf (textOf l) = textOf l := by
  obtain ⟨d, pol, h1, h2, h3, h4⟩ := known_pol l h0
  have e : textOf l = printS d pol := by unfold textOf; rw [if_pos h0, print_same h1 h2]
  rw [e] at hl ⊢
  have := text_pol (d := d) hl (print_lex pol h4) (printed_rd h4) (by rw [fst_map]; exact h3)
  rw [fst_map] at this
  exact this
end Go.Proofs.YtfkdailfcmnjlaaGreatDoor

namespace Go.Proofs.YtfkdailfcmnjlaaGreatDoor
open Go Go.RowKit
set_option maxRecDepth 100000
attribute [local go_sem ↓] Go.wp_at_zero Go.wp_at_succ

/-- Which of some a raw number speaks of. -/
def pickN (c : Int) (n : Nat) : Nat := ((if c < 0 then -(c + 1) else c) % (n : Int)).toNat
theorem pickN_lt (c : Int) {n : Nat} (h : 0 < n) : pickN c n < n := by
  unfold pickN
  have h1 := Int.emod_nonneg (if c < 0 then -(c + 1) else c) (b := (n : Int)) (by omega)
  have h2 := Int.emod_lt_of_pos (if c < 0 then -(c + 1) else c) (b := (n : Int)) (by omega)
  omega
set_option maxHeartbeats 2000000 in
theorem pickN_any {c : Int} (hc : In64 c) {n : Nat} (hn : 0 < n) (hn2 : n ≤ 9223372036854775807) (w : World) : Calls Tryz.prog 36 #[.int .i64 c, .int .i64 n] w fun e w' => e = .returned (.int .i64 (pickN c n : Nat)) ∧ w' = w := by
  have HR : Hid (((pickN c n : Nat) : Int) = (if c < 0 then -(c + 1) else c) % (n : Int)) := by
    show _ = _
    unfold pickN
    have h1 := Int.emod_nonneg (if c < 0 then -(c + 1) else c) (b := (n : Int)) (by omega)
    omega
  have hlt := pickN_lt c hn
  generalize pickN c n = R at *
  unfold In64 at hc
  obtain ⟨h1, h2⟩ := hc
  have hn0 : ¬ (n : Int) = 0 := by omega
  have hn1 : ((n : Int) == 0) = false := by simp; omega
  have hR64 : IntKind.i64.wrap (R : Int) = (R : Int) := by rw [IntKind.wrap_i64]; omega
  by_cases h0 : c < 0
  · have HR2 : Hid ((R : Int) = (-(c + 1)) % (n : Int)) := by have := HR.out; rw [if_pos h0] at this; exact this
    have hz : (0 : Int) ≤ -(c + 1) := by omega
    have hw1 : IntKind.i64.wrap (c + 1) = c + 1 := by rw [IntKind.wrap_i64]; omega
    have hw2 : IntKind.i64.wrap (-(c + 1)) = -(c + 1) := by rw [IntKind.wrap_i64]; omega
    have ht : (-(c + 1)).tmod (n : Int) = (R : Int) := by rw [HR2.out]; exact Int.tmod_eq_emod_of_nonneg hz
    clear HR HR2
    go_enter Tryz.func36, Tryz.ntmps36
    go_wp2
    go_ret
    exact ⟨by first | rfl | simp [ht, hR64], rfl⟩
  · have HR2 : Hid ((R : Int) = c % (n : Int)) := by have := HR.out; rw [if_neg h0] at this; exact this
    have hz : (0 : Int) ≤ c := by omega
    have ht : c.tmod (n : Int) = (R : Int) := by rw [HR2.out]; exact Int.tmod_eq_emod_of_nonneg hz
    clear HR HR2
    go_enter Tryz.func36, Tryz.ntmps36
    go_wp2
    go_ret
    exact ⟨by first | rfl | simp [ht, hR64], rfl⟩
set_option maxHeartbeats 2000000 in
theorem kknown_any (n : Int) (w : World) : Calls Tryz.prog 123 #[.int .i64 n] w fun e w' => e = .returned (.int .i64 (knownI n)) ∧ w' = w := by
  by_cases h0 : n < 0
  · have HC : Hid (knownI n = 0) := by show _ = _; unfold knownI; rw [if_pos (.inl h0)]
    have h1 : ¬ 0 ≤ n := by omega
    go_enter Tryz.func123, Tryz.ntmps123
    go_wp2
    go_ret
    exact ⟨by rw [HC.out]; rfl, rfl⟩
  · have h1 : 0 ≤ n := by omega
    by_cases h4 : n ≤ 4
    · have HC : Hid (knownI n = n) := by show _ = _; unfold knownI; rw [if_neg (by omega)]
      have hw : IntKind.i64.wrap n = n := by rw [IntKind.wrap_i64]; omega
      go_enter Tryz.func123, Tryz.ntmps123
      go_wp2
      go_ret
      exact ⟨by rw [HC.out]; first | rfl | simp [hw], rfl⟩
    · have HC : Hid (knownI n = 0) := by show _ = _; unfold knownI; rw [if_pos (.inr (by omega))]
      go_enter Tryz.func123, Tryz.ntmps123
      go_wp2
      go_ret
      exact ⟨by rw [HC.out]; rfl, rfl⟩
set_option maxHeartbeats 2000000 in
theorem ktruth_any (b : Bool) (w : World) : Calls Tryz.prog 76 #[.bool b] w fun e w' => e = .returned (.int .i64 (truthI b)) ∧ w' = w := by
  cases b
  all_goals
    go_enter Tryz.func76, Tryz.ntmps76
    go_wp2
    go_ret
    exact ⟨rfl, rfl⟩
set_option maxHeartbeats 2000000 in
theorem deeper_any (a b c : Nat) (ha : a ≤ 1000) (hb : b ≤ 1000) (hc : c ≤ 1000) (w : World) : Calls Tryz.prog 124 #[.int .i64 a, .int .i64 b, .int .i64 c] w fun e w' => e = .returned (.int .i64 ((max (max a b) c + 1 : Nat) : Int)) ∧ w' = w := by
  by_cases h1 : a < b
  · have e1 : max a b = b := by omega
    rw [e1]
    by_cases h2 : b < c
    · have e2 : max b c = c := by omega
      rw [e2]
      have hi1 : (a : Int) < b := by omega
      have hi2 : (b : Int) < c := by omega
      go_enter Tryz.func124, Tryz.ntmps124
      go_wp2
      go_ret
      exact ⟨by go_num, rfl⟩
    · have e2 : max b c = b := by omega
      rw [e2]
      have hi1 : (a : Int) < b := by omega
      have hi2 : ¬ (b : Int) < c := by omega
      go_enter Tryz.func124, Tryz.ntmps124
      go_wp2
      go_ret
      exact ⟨by go_num, rfl⟩
  · have e1 : max a b = a := by omega
    rw [e1]
    by_cases h2 : a < c
    · have e2 : max a c = c := by omega
      rw [e2]
      have hi1 : ¬ (a : Int) < b := by omega
      have hi2 : (a : Int) < c := by omega
      go_enter Tryz.func124, Tryz.ntmps124
      go_wp2
      go_ret
      exact ⟨by go_num, rfl⟩
    · have e2 : max a c = a := by omega
      rw [e2]
      have hi1 : ¬ (a : Int) < b := by omega
      have hi2 : ¬ (a : Int) < c := by omega
      go_enter Tryz.func124, Tryz.ntmps124
      go_wp2
      go_ret
      exact ⟨by go_num, rfl⟩
/-- What a sum of two comes to within 64 bits. -/
theorem clamp_mid {x : Int} (h1 : -9223372036854775808 ≤ x) (h2 : x ≤ 9223372036854775807) : clampI x = x := by unfold clampI; rw [if_neg (by omega), if_neg (by omega)]
set_option maxHeartbeats 2000000 in
theorem kplus_any {a b : Int} (ha : In64 a) (hb : In64 b) (w : World) : Calls Tryz.prog 74 #[.int .i64 a, .int .i64 b] w fun e w' => e = .returned (.int .i64 (clampI (a + b))) ∧ w' = w := by
  unfold In64 at ha hb
  by_cases hm : -9223372036854775808 ≤ a + b ∧ a + b ≤ 9223372036854775807
  · have w3 : IntKind.i64.wrap (a + b) = a + b := wrap64 hm
    have HC : Hid (clampI (a + b) = a + b) := clamp_mid hm.1 hm.2
    have k1 : ¬ (0 < a ∧ 0 < b ∧ a + b < 0) := by omega
    have k2 : ¬ (a < 0 ∧ b < 0 ∧ 0 ≤ a + b) := by omega
    by_cases a0 : 0 < a
    · have a1 : ¬ a < 0 := by omega
      by_cases b0 : 0 < b
      · have c0 : ¬ a + b < 0 := by omega
        clear k1 k2
        go_enter Tryz.func74, Tryz.ntmps74
        go_wp2_with fail
        go_ret
        exact ⟨by rw [HC.out]; rfl, rfl⟩
      · clear k1 k2
        go_enter Tryz.func74, Tryz.ntmps74
        go_wp2_with fail
        go_ret
        exact ⟨by rw [HC.out]; rfl, rfl⟩
    · by_cases a1 : a < 0
      · by_cases b0 : b < 0
        · have c0 : ¬ 0 ≤ a + b := by omega
          clear k1 k2
          go_enter Tryz.func74, Tryz.ntmps74
          go_wp2_with fail
          go_ret
          exact ⟨by rw [HC.out]; rfl, rfl⟩
        · clear k1 k2
          go_enter Tryz.func74, Tryz.ntmps74
          go_wp2_with fail
          go_ret
          exact ⟨by rw [HC.out]; rfl, rfl⟩
      · clear k1 k2
        go_enter Tryz.func74, Tryz.ntmps74
        go_wp2_with fail
        go_ret
        exact ⟨by rw [HC.out]; rfl, rfl⟩
  · by_cases hp : 0 < a
    · have b0 : 0 < b := by omega
      have w3 : IntKind.i64.wrap (a + b) = a + b - 18446744073709551616 := by rw [IntKind.wrap_i64]; omega
      have HC : Hid (clampI (a + b) = 9223372036854775807) := by show _ = _; unfold clampI; rw [if_pos (by omega)]
      have c0 : a + b - 18446744073709551616 < 0 := by omega
      clear hm
      go_enter Tryz.func74, Tryz.ntmps74
      go_wp2_with fail
      go_ret
      exact ⟨by rw [HC.out]; rfl, rfl⟩
    · have a0 : a < 0 := by omega
      have b0 : b < 0 := by omega
      have w3 : IntKind.i64.wrap (a + b) = a + b + 18446744073709551616 := by rw [IntKind.wrap_i64]; omega
      have HC : Hid (clampI (a + b) = -9223372036854775808) := by show _ = _; unfold clampI; rw [if_neg (by omega), if_pos (by omega)]
      have c0 : 0 ≤ a + b + 18446744073709551616 := by omega
      clear hm
      go_enter Tryz.func74, Tryz.ntmps74
      go_wp2_with fail
      go_ret
      exact ⟨by rw [HC.out]; rfl, rfl⟩
set_option maxHeartbeats 2000000 in
theorem kminus_any {a b : Int} (ha : In64 a) (hb : In64 b) (w : World) : Calls Tryz.prog 75 #[.int .i64 a, .int .i64 b] w fun e w' => e = .returned (.int .i64 (clampI (a - b))) ∧ w' = w := by
  unfold In64 at ha hb
  by_cases hm : -9223372036854775808 ≤ a - b ∧ a - b ≤ 9223372036854775807
  · have w3 : IntKind.i64.wrap (a - b) = a - b := wrap64 hm
    have HC : Hid (clampI (a - b) = a - b) := clamp_mid hm.1 hm.2
    by_cases a0 : 0 ≤ a
    · have a1 : ¬ a < 0 := by omega
      by_cases b0 : b < 0
      · have c0 : ¬ a - b < 0 := by omega
        go_enter Tryz.func75, Tryz.ntmps75
        go_wp2_with fail
        go_ret
        exact ⟨by rw [HC.out]; rfl, rfl⟩
      · go_enter Tryz.func75, Tryz.ntmps75
        go_wp2_with fail
        go_ret
        exact ⟨by rw [HC.out]; rfl, rfl⟩
    · have a1 : a < 0 := by omega
      by_cases b0 : 0 < b
      · have c0 : ¬ 0 ≤ a - b := by omega
        go_enter Tryz.func75, Tryz.ntmps75
        go_wp2_with fail
        go_ret
        exact ⟨by rw [HC.out]; rfl, rfl⟩
      · go_enter Tryz.func75, Tryz.ntmps75
        go_wp2_with fail
        go_ret
        exact ⟨by rw [HC.out]; rfl, rfl⟩
  · by_cases hp : 0 ≤ a
    · have b0 : b < 0 := by omega
      have w3 : IntKind.i64.wrap (a - b) = a - b - 18446744073709551616 := by rw [IntKind.wrap_i64]; omega
      have HC : Hid (clampI (a - b) = 9223372036854775807) := by show _ = _; unfold clampI; rw [if_pos (by omega)]
      have c0 : a - b - 18446744073709551616 < 0 := by omega
      clear hm
      go_enter Tryz.func75, Tryz.ntmps75
      go_wp2_with fail
      go_ret
      exact ⟨by rw [HC.out]; rfl, rfl⟩
    · have a0 : a < 0 := by omega
      have b0 : 0 < b := by omega
      have w3 : IntKind.i64.wrap (a - b) = a - b + 18446744073709551616 := by rw [IntKind.wrap_i64]; omega
      have HC : Hid (clampI (a - b) = -9223372036854775808) := by show _ = _; unfold clampI; rw [if_neg (by omega), if_pos (by omega)]
      have c0 : 0 ≤ a - b + 18446744073709551616 := by omega
      clear hm
      go_enter Tryz.func75, Tryz.ntmps75
      go_wp2_with fail
      go_ret
      exact ⟨by rw [HC.out]; rfl, rfl⟩
end Go.Proofs.YtfkdailfcmnjlaaGreatDoor

namespace Go.Proofs.YtfkdailfcmnjlaaGreatDoor
open Go Go.RowKit
set_option maxRecDepth 100000

/-- What a part tells hangs on the tree alone. -/
def nTell (xs : List Itm) (vals fl : List Int) (t : Tok) (l : List Int) : Int := overI t.text (wordI xs vals fl t) l
theorem fair_tell (xs : List Itm) (vals fl : List Int) : Fair (nTell xs vals fl) := fun t s l h h0 => by
  obtain ⟨h1, h2⟩ := h
  unfold nTell tokS wordI
  by_cases h : s.k = 110
  · rw [if_pos h] at h2
    rw [h0 (by omega)]
    simp only [overI]
    rw [if_pos (by omega), if_pos h, h2]
  · rw [if_neg h] at h2; rw [h1, h2]
theorem tell_fo (xs : List Itm) (vals fl : List Int) (f : Nat) (L : List Pt) : ∀ i, tellF xs vals fl L f i = foL (nTell xs vals fl) 0 f L i := by
  induction f with
  | zero => intro i; rfl
  | succ f ih => intro i; rw [tellF, foL, nTell, List.map_congr_left fun j _ => ih j]
def tellS (xs : List Itm) (vals fl : List Int) (d : Nat) (s : Sy) : Int := foS (nTell xs vals fl) 0 d s
theorem nTell_names {xs ys : List Itm} (h : xs.map Itm.name = ys.map Itm.name) (vals fl : List Int) : nTell xs vals fl = nTell ys vals fl := by
  funext t l
  unfold nTell wordI
  rw [letIx_names h]
/-- What a policy says. -/
def meanS (xs : List Itm) (fl : List Int) (d : Nat) : List SyI → List Int → Nat → Option (Bool × Nat)
  | [], _, _ => none
  | s :: r, vals, n =>
    if s.name = [] then (if tellS xs vals fl d s.sy = 1 then some (s.allow, n + 1) else meanS xs fl d r (vals ++ [tellS xs vals fl d s.sy]) (n + 1))
    else meanS xs fl d r (vals ++ [tellS xs vals fl d s.sy]) n
theorem mean_same {d : Nat} {L : List Pt} {ys zs : List Itm} {fl : List Int} (hz : ys.map Itm.name = zs.map Itm.name) {xs : List Itm} : ∀ {pol : List SyI} {fr fr' : Nat} (vals : List Int) (n : Nat), TreesAt L xs fr' → PolIs d L xs pol fr → meanL ys fl L xs vals n = meanS zs fl d pol vals n := by
  induction xs with
  | nil => intro pol fr fr' vals n _ h; cases pol with
    | nil => rfl
    | cons => exact h.elim
  | cons x xs ih => intro pol fr fr' vals n hT h; cases pol with
    | nil => exact h.elim
    | cons s pol =>
      obtain ⟨h1, h2, h3, h4, h5, h6⟩ := h
      have ht : tellF ys vals fl L (x.top + 1) x.top = tellS zs vals fl d s.sy := by
        rw [tell_fo, fo_same (fair_tell _ _ _) _ hT.1.fit h3, nTell_names hz]; rfl
      rw [meanL, meanS, ht, h1, h2, ih _ _ hT.2.2 h6, ih _ _ hT.2.2 h6]
/-- What a text that has a policy's words says. -/
theorem mean_pol {d : Nat} {l : List UInt8} {pol : List (SyI × List (Nat × List UInt8))} (fl : List Int) (hl : l.length ≤ 1000) (hx : LX l (polW pol)) (hp : ∀ p ∈ pol, RdS d 6 p.2 p.1.sy ∧ (p.1.name ≠ [] → p.1.allow = false)) (ok : OkS d (pol.map Prod.fst)) :
    meanOf l fl = (meanS ((pol.map Prod.fst).map itmOf) fl d (pol.map Prod.fst) [] 0).getD (false, 0) := by
  obtain ⟨h1, h2, h3⟩ := read_pol hl hx hp
  have h4 := h3 ok
  unfold meanOf
  rw [if_pos (by rw [h4]), mean_same h2.names [] 0 h1 h2]

/-- A condition that was made: as it is printed, with other brackets; what it tells; how deep it is. -/
structure Mk where
  text : List UInt8
  bare : List UInt8
  told : Int
  deep : Nat
/-- What is known of the tree that was meant, at every bound from its depth on. -/
structure MkS (fl : List Int) (ty : UInt8) (m : Mk) (s : Sy) (wb : List (Nat × List UInt8)) (d : Nat) : Prop where
  sh : ShS d s
  plain : plainS d s = m.text
  few : 3 * cS d s ≤ m.text.length + 2
  dep : dS d s ≤ m.deep
  own : ownS (fun _ => false) d s = true
  ty : ∀ xs its, tyS xs its d s = ty
  tell : ∀ xs vals, tellS xs vals fl d s = m.told
  rd : RdS d 6 wb s
structure MkOK (fl : List Int) (ty : UInt8) (m : Mk) : Prop where
  is : ∃ s wb, (∀ d, m.deep ≤ d → MkS fl ty m s wb d) ∧ ∀ rest ws, LX rest ws → Off rest → LX (m.bare ++ rest) (wb ++ ws)
  one : 1 ≤ m.deep
  deep : m.deep ≤ 12
  text : m.text.length ≤ 140
  bare : m.bare.length ≤ 140
  told : Has ty m.told
/-- The types of words. -/
def mTy (x : List UInt8) : UInt8 := if 0 ≤ idx kFields x then ([110, 110, 110, 110, 109, 109, 109, 116, 116] : List UInt8).getD (idx kFields x).toNat 0 else if 0 ≤ idx kMembers x then 109 else 116
theorem leafW_ty : ∀ x ∈ leafWs, ∀ (xs : List Itm) (its : List UInt8), nTy xs its ⟨107, x, 0⟩ [] = mTy x := by
  intro x hx xs its
  unfold nTy tyCase
  rw [if_neg (by simp), if_neg (by simp), if_neg (by simp)]
  have : ∀ x ∈ leafWs, UInt8.ofNat (if 0 ≤ idx kFields x then (([110, 110, 110, 110, 109, 109, 109, 116, 116] : List UInt8).getD (idx kFields x).toNat 0).toNat else if 0 ≤ idx kMembers x then 109 else if x = wTrue ∨ x = wFalse then 116 else tySign x []) = mTy x := by decide
  exact this x hx
/-- A word that stands alone and is no number. -/
theorem mk_word {fl : List Int} {x : List UInt8} (hx : x ∈ leafWs) {v : Int} (hv : (if 0 ≤ idx kFields x then fl.getD (idx kFields x).toNat 0 else if 0 ≤ idx kMembers x then idx kMembers x else truthI (x == wTrue)) = v) (hh : Has (mTy x) v) : MkOK fl (mTy x) ⟨x, x, v, 1⟩ := by
  obtain ⟨g1, g2, g3, g4⟩ := leaf_word x hx
  have hlen : x.length ≤ 10 := (by decide : ∀ y ∈ leafWs, y.length ≤ 10) x hx
  refine ⟨⟨⟨107, x, []⟩, [(107, x)], fun d hd => ?_, fun rest ws h ho => h.letters ho g1 g2 (.inl ⟨g3, rfl⟩)⟩, Nat.le_refl _, by show 1 ≤ 12; omega, by show x.length ≤ 140; omega, by show x.length ≤ 140; omega, hh⟩
  obtain ⟨d, rfl⟩ : ∃ e, d = e + 1 := ⟨d - 1, by simp at hd; omega⟩
  have hl : 0 < x.length := List.length_pos_iff.2 g1
  refine ⟨⟨.inl ⟨rfl, .inr (.inr ⟨rfl, hx⟩)⟩, by simp⟩, ?_, ?_, ?_, ?_, ?_, ?_, ?_⟩
  · rw [plainS]; simp only []; rw [if_neg (by decide)]; rfl
  · simp [cS]; omega
  · show foS nDep 1 (d + 1) ⟨107, x, []⟩ ≤ 1
    rw [foS]; simp [nDep]
  · show foS (nOwn _) true (d + 1) ⟨107, x, []⟩ = true
    rw [foS]; simp [nOwn, tokS]
  · intro xs its
    show foS (nTy xs its) 0 (d + 1) ⟨107, x, []⟩ = mTy x
    rw [foS]; exact leafW_ty x hx xs its
  · intro xs vals
    show foS (nTell xs vals fl) 0 (d + 1) ⟨107, x, []⟩ = v
    rw [foS]
    show wordI xs vals fl ⟨107, x, 0⟩ = v
    unfold wordI
    rw [if_neg (by simp), if_neg (by simp)]; exact hv
  · exact (RdS.one (w := (107, x)) g4 rfl ⟨rfl, by rw [if_neg (by show ¬ 107 = 110; decide)]⟩).out (hd_one (w := (107, x)) g4) (Nat.le_refl 6)
theorem dec_zero (l : List UInt8) : decVal (48 :: l) = decVal l := by unfold decVal; rw [List.foldl_cons]; rfl
/-- A number. -/
theorem mk_num {fl : List Int} {k : Nat} (hk : k ≤ 9223372036854775807) : MkOK fl 110 ⟨tensL k, 48 :: tensL k, k, 1⟩ := by
  obtain ⟨t1, t2, t3⟩ := tensL_ok hk
  have hlen : (tensL k).length ≤ 20 := tensF_len 20 k
  have hl : 0 < (tensL k).length := List.length_pos_iff.2 t3
  have hz : decVal (48 :: tensL k) = k := by rw [dec_zero, t2]
  refine ⟨⟨⟨110, tensL k, []⟩, [(110, 48 :: tensL k)], fun d hd => ?_, fun rest ws h ho => ?_⟩, Nat.le_refl _, by show 1 ≤ 12; omega, by show (tensL k).length ≤ 140; omega, by show (48 :: tensL k).length ≤ 140; simp; omega, ⟨by show In64 (k : Int); unfold In64; omega, fun e => by cases e⟩⟩
  · obtain ⟨d, rfl⟩ : ∃ e, d = e + 1 := ⟨d - 1, by simp at hd; omega⟩
    refine ⟨⟨.inl ⟨rfl, .inl ⟨rfl, by show decVal (tensL k) ≤ _; omega⟩⟩, by simp⟩, ?_, ?_, ?_, ?_, ?_, ?_, ?_⟩
    · rw [plainS]; show (if 110 = 110 then tensL (decVal (tensL k)) else _) = _; rw [if_pos rfl, t2]
    · simp [cS]; omega
    · show foS nDep 1 (d + 1) ⟨110, tensL k, []⟩ ≤ 1
      rw [foS]; simp [nDep]
    · show foS (nOwn _) true (d + 1) ⟨110, tensL k, []⟩ = true
      rw [foS]; simp [nOwn, tokS]
    · intro xs its
      show foS (nTy xs its) 0 (d + 1) ⟨110, tensL k, []⟩ = 110
      rw [foS]; rfl
    · intro xs vals
      show foS (nTell xs vals fl) 0 (d + 1) ⟨110, tensL k, []⟩ = (k : Int)
      rw [foS]
      show wordI xs vals fl ⟨110, tensL k, 0⟩ = (k : Int)
      unfold wordI
      rw [if_pos rfl, t2]
    · have ha : alone ⟨110, 48 :: tensL k, 0⟩ = true := rfl
      exact (RdS.one (w := (110, 48 :: tensL k)) ha rfl ⟨rfl, by rw [if_pos rfl]; rw [hz]; exact t2.symm⟩).out (hd_one (w := (110, 48 :: tensL k)) ha) (Nat.le_refl 6)
  · exact h.digits ho (by simp) (fun c hc => by
      rcases List.mem_cons.1 hc with rfl | hc
      · decide
      · exact t1 c hc) (by rw [hz]; exact hk)
/-- The sign between two, what it makes of types. -/
def sTy (x : List UInt8) : UInt8 := if x = [43] ∨ x = [45] then 110 else 116
/-- Two conditions with a sign. -/
theorem mk_both {fl : List Int} {ta tb : UInt8} {a b : Mk} {w : Nat × List UInt8} (ha : MkOK fl ta a) (hb : MkOK fl tb b) (hw : w ∈ twoWs) (hty : ∀ xs its, nTy xs its ⟨w.1, w.2, 0⟩ [ta, tb] = sTy w.2)
    (hd : max a.deep b.deep + 1 ≤ 12) (ht : a.text.length + w.2.length + b.text.length + 4 ≤ 140) (hbr : a.bare.length + w.2.length + b.bare.length + 4 ≤ 140) (hh : Has (sTy w.2) (twoI w.2 a.told b.told)) :
    MkOK fl (sTy w.2) ⟨[40] ++ a.text ++ [32] ++ w.2 ++ [32] ++ b.text ++ [41], [40] ++ a.bare ++ [41] ++ w.2 ++ [40] ++ b.bare ++ [41], twoI w.2 a.told b.told, max a.deep b.deep + 1⟩ := by
  obtain ⟨sa, wa, ea, la⟩ := ha.is
  obtain ⟨sb, wb, eb, lb⟩ := hb.is
  have hw1 : 1 ≤ w.2.length ∧ w.1 ≠ 110 ∧ w.1 ≠ 111 := by
    simp only [twoWs, List.mem_cons, List.not_mem_nil, or_false] at hw
    rcases hw with rfl | rfl | rfl | rfl | rfl | rfl | rfl <;> decide
  refine ⟨⟨⟨w.1, w.2, [sa, sb]⟩, ((115, [40]) :: (wa ++ [(115, [41])])) ++ w :: ((115, [40]) :: (wb ++ [(115, [41])])), fun d hd' => ?_, fun rest ws h ho => ?_⟩, by show 1 ≤ _ + 1; omega, hd, by simp; omega, by simp; omega, hh⟩
  · simp only [] at hd'
    obtain ⟨d, rfl⟩ : ∃ e, d = e + 1 := ⟨d - 1, by omega⟩
    have A := ea d (by omega)
    have B := eb d (by omega)
    refine ⟨⟨.inr (.inr (.inr ⟨hw, rfl⟩)), by simp; exact ⟨A.sh, B.sh⟩⟩, ?_, ?_, ?_, ?_, ?_, ?_, ?_⟩
    · rw [plainS]; simp only []; rw [if_neg hw1.2.1]; show overL w.2 [plainS d sa, plainS d sb] = _; rw [A.plain, B.plain]; rfl
    · have := A.few; have := B.few
      simp [cS]; omega
    · show foS nDep 1 (d + 1) ⟨w.1, w.2, [sa, sb]⟩ ≤ _
      have := A.dep; have := B.dep
      unfold dS at *
      rw [foS]; simp [nDep]; omega
    · show foS (nOwn _) true (d + 1) ⟨w.1, w.2, [sa, sb]⟩ = true
      have h1 := A.own; have h2 := B.own
      unfold ownS at *
      rw [foS]; simp [nOwn, tokS, hw1.2.2, h1, h2]
    · intro xs its
      show foS (nTy xs its) 0 (d + 1) ⟨w.1, w.2, [sa, sb]⟩ = _
      have h1 := A.ty xs its; have h2 := B.ty xs its
      unfold tyS at *
      rw [foS]; show nTy xs its ⟨w.1, w.2, 0⟩ [foS (nTy xs its) 0 d sa, foS (nTy xs its) 0 d sb] = _
      rw [h1, h2]; exact hty xs its
    · intro xs vals
      show foS (nTell xs vals fl) 0 (d + 1) ⟨w.1, w.2, [sa, sb]⟩ = _
      have h1 := A.tell xs vals; have h2 := B.tell xs vals
      unfold tellS at *
      rw [foS]; show overI w.2 _ [foS (nTell xs vals fl) 0 d sa, foS (nTell xs vals fl) 0 d sb] = _
      rw [h1, h2]; rfl
    · exact RdS.both hw A.rd.brackets (hd_brackets _) B.rd.brackets (hd_brackets _)
  · have h1 := (lb _ _ h.shut (off_shut _)).opn
    have h2 := over_two hw h1 (off_cons (by decide) _) (fun c r e => by simp at e; rw [← e.1]; decide)
    have h3 := (la _ _ h2.shut (off_shut _)).opn
    simpa using h3
theorem mk_not {fl : List Int} {a : Mk} (ha : MkOK fl 116 a) (hd : a.deep + 1 ≤ 12) (ht : a.text.length + 6 ≤ 140) (hbr : a.bare.length + 5 ≤ 140) :
    MkOK fl 116 ⟨wsNot ++ a.text ++ [41], [110, 111, 116, 40] ++ a.bare ++ [41], 1 - a.told, a.deep + 1⟩ := by
  obtain ⟨sa, wa, ea, la⟩ := ha.is
  have hv : Has 116 (1 - a.told) := by
    obtain ⟨h1, h2⟩ := ha.told
    have := h2 rfl
    unfold Has In64
    omega
  refine ⟨⟨⟨107, wNot, [sa]⟩, (107, wNot) :: ((115, [40]) :: (wa ++ [(115, [41])])), fun d hd' => ?_, fun rest ws h ho => ?_⟩, by show 1 ≤ _ + 1; omega, hd, by simp [wsNot]; omega, by simp; omega, hv⟩
  · simp only [] at hd'
    obtain ⟨d, rfl⟩ : ∃ e, d = e + 1 := ⟨d - 1, by omega⟩
    have A := ea d (by omega)
    refine ⟨⟨.inr (.inl ⟨rfl, rfl, rfl⟩), by simp; exact A.sh⟩, ?_, ?_, ?_, ?_, ?_, ?_, ?_⟩
    · rw [plainS]; simp only []; rw [if_neg (by decide)]; show overL wNot [plainS d sa] = _; rw [A.plain]; rfl
    · have := A.few
      simp [cS, wsNot]; omega
    · show foS nDep 1 (d + 1) ⟨107, wNot, [sa]⟩ ≤ _
      have := A.dep
      unfold dS at *
      rw [foS]; simp [nDep]; omega
    · show foS (nOwn _) true (d + 1) ⟨107, wNot, [sa]⟩ = true
      have h1 := A.own
      unfold ownS at *
      rw [foS]; simp [nOwn, tokS, h1]
    · intro xs its
      show foS (nTy xs its) 0 (d + 1) ⟨107, wNot, [sa]⟩ = _
      have h1 := A.ty xs its
      unfold tyS at *
      rw [foS]; show nTy xs its ⟨107, wNot, 0⟩ [foS (nTy xs its) 0 d sa] = _
      rw [h1]; rfl
    · intro xs vals
      show foS (nTell xs vals fl) 0 (d + 1) ⟨107, wNot, [sa]⟩ = _
      have h1 := A.tell xs vals
      unfold tellS at *
      rw [foS]; show overI wNot _ [foS (nTell xs vals fl) 0 d sa] = _
      rw [h1]; rfl
    · exact A.rd.brackets.nots (hd_brackets _)
  · have h1 := ((la _ _ h.shut (off_shut _)).opn).kw (off_cons (by decide) _) wNot (by decide)
    simpa [wNot] using h1
theorem mk_if {fl : List Int} {x a b : Mk} (hx : MkOK fl 116 x) (ha : MkOK fl 110 a) (hb : MkOK fl 110 b) (hd : max (max x.deep a.deep) b.deep + 1 ≤ 12) (ht : x.text.length + a.text.length + b.text.length + 17 ≤ 140) (hbr : x.bare.length + a.bare.length + b.bare.length + 16 ≤ 140) :
    MkOK fl 110 ⟨wsIf ++ x.text ++ wsThen ++ a.text ++ wsElse ++ b.text ++ [41], [105, 102, 40] ++ x.bare ++ [41, 116, 104, 101, 110, 40] ++ a.bare ++ [41, 101, 108, 115, 101, 40] ++ b.bare ++ [41], if x.told = 1 then a.told else b.told, max (max x.deep a.deep) b.deep + 1⟩ := by
  obtain ⟨sx, wx, ex, lx'⟩ := hx.is
  obtain ⟨sa, wa, ea, la⟩ := ha.is
  obtain ⟨sb, wb, eb, lb⟩ := hb.is
  have hv : Has 110 (if x.told = 1 then a.told else b.told) := by split; exact ha.told; exact hb.told
  refine ⟨⟨⟨107, wIf, [sx, sa, sb]⟩, (107, wIf) :: (((115, [40]) :: (wx ++ [(115, [41])])) ++ (107, wThen) :: (((115, [40]) :: (wa ++ [(115, [41])])) ++ (107, wElse) :: ((115, [40]) :: (wb ++ [(115, [41])])))), fun d hd' => ?_, fun rest ws h ho => ?_⟩, by show 1 ≤ _ + 1; omega, hd, by simp [wsIf, wsThen, wsElse]; omega, by simp; omega, hv⟩
  · simp only [] at hd'
    obtain ⟨d, rfl⟩ : ∃ e, d = e + 1 := ⟨d - 1, by omega⟩
    have X := ex d (by omega)
    have A := ea d (by omega)
    have B := eb d (by omega)
    refine ⟨⟨.inr (.inr (.inl ⟨rfl, rfl, rfl⟩)), by simp; exact ⟨X.sh, A.sh, B.sh⟩⟩, ?_, ?_, ?_, ?_, ?_, ?_, ?_⟩
    · rw [plainS]; simp only []; rw [if_neg (by decide)]; show overL wIf [plainS d sx, plainS d sa, plainS d sb] = _; rw [X.plain, A.plain, B.plain]; rfl
    · have := X.few; have := A.few; have := B.few
      simp [cS, wsIf, wsThen, wsElse]; omega
    · show foS nDep 1 (d + 1) ⟨107, wIf, [sx, sa, sb]⟩ ≤ _
      have := X.dep; have := A.dep; have := B.dep
      unfold dS at *
      rw [foS]; simp [nDep]; omega
    · show foS (nOwn _) true (d + 1) ⟨107, wIf, [sx, sa, sb]⟩ = true
      have h0 := X.own; have h1 := A.own; have h2 := B.own
      unfold ownS at *
      rw [foS]; simp [nOwn, tokS, h0, h1, h2]
    · intro xs its
      show foS (nTy xs its) 0 (d + 1) ⟨107, wIf, [sx, sa, sb]⟩ = _
      have h0 := X.ty xs its; have h1 := A.ty xs its; have h2 := B.ty xs its
      unfold tyS at *
      rw [foS]; show nTy xs its ⟨107, wIf, 0⟩ [foS (nTy xs its) 0 d sx, foS (nTy xs its) 0 d sa, foS (nTy xs its) 0 d sb] = _
      rw [h0, h1, h2]; rfl
    · intro xs vals
      show foS (nTell xs vals fl) 0 (d + 1) ⟨107, wIf, [sx, sa, sb]⟩ = _
      have h0 := X.tell xs vals; have h1 := A.tell xs vals; have h2 := B.tell xs vals
      unfold tellS at *
      rw [foS]; show overI wIf _ [foS (nTell xs vals fl) 0 d sx, foS (nTell xs vals fl) 0 d sa, foS (nTell xs vals fl) 0 d sb] = _
      rw [h0, h1, h2]; rfl
    · exact RdS.if_ (X.rd.brackets.out (hd_brackets _) (Nat.le_refl 6)) (A.rd.brackets.out (hd_brackets _) (Nat.le_refl 6)) (B.rd.brackets.out (hd_brackets _) (Nat.le_refl 6))
  · have h1 := ((lb _ _ h.shut (off_shut _)).opn).kw (off_cons (by decide) _) wElse (by decide)
    have h2 := ((la _ _ h1.shut (off_shut _)).opn).kw (off_cons (by decide) _) wThen (by decide)
    have h3 := ((lx' _ _ h2.shut (off_shut _)).opn).kw (off_cons (by decide) _) wIf (by decide)
    simpa [wIf, wThen, wElse] using h3
end Go.Proofs.YtfkdailfcmnjlaaGreatDoor
