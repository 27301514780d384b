/-
  The document's plain form of every part; what is known of a text that was read, for its plain form. The document's 'tells': what a part of a condition tells. The document's Print. What a policy says of an event: the plain function, and what is known of a text that was read. The document's Mean. The program's Mean of a policy: what it keeps from item to item. The program's Mean of a policy. The program's fields of an event in a state.
-/
import Derived.Test.YtfkdailfcmnjlaaGreatDoorTells01
import Derived.Test.YtfkdailfcmnjlaaGreatDoorTells02
import Derived.Test.YtfkdailfcmnjlaaGreatDoorTells04
import Derived.Test.YtfkdailfcmnjlaaGreatDoorTells05
import Derived.Test.YtfkdailfcmnjlaaGreatDoorTells06
import Derived.Test.YtfkdailfcmnjlaaGreatDoorTells07
import Derived.Test.YtfkdailfcmnjlaaGreatDoorTells08
import Derived.Test.YtfkdailfcmnjlaaGreatDoorTells09
import Derived.Test.YtfkdailfcmnjlaaGreatDoorTells10
import Derived.Test.YtfkdailfcmnjlaaGreatDoorTells11
import Derived.Test.YtfkdailfcmnjlaaGreatDoorTells12
import Derived.Test.YtfkdailfcmnjlaaGreatDoorTells13
import Derived.Test.YtfkdailfcmnjlaaGreatDoorTells14
import Derived.Test.YtfkdailfcmnjlaaGreatDoorTells15
import Derived.Test.YtfkdailfcmnjlaaGreatDoorTells16
import Derived.Test.YtfkdailfcmnjlaaGreatDoorTells17
import Derived.Test.YtfkdailfcmnjlaaGreatDoorTells18
import Derived.Test.YtfkdailfcmnjlaaGreatDoorTells19
import Derived.Test.YtfkdailfcmnjlaaGreatDoorTells20
import Derived.Test.YtfkdailfcmnjlaaGreatDoorTells21
import Derived.Test.YtfkdailfcmnjlaaGreatDoorLays
import Derived.Test.YtfkdailfcmnjlaaGreatDoorLays2
import Derived.WalkKit
import Derived.Deep.QuietTactic
import Derived.BigQuiet
import Derived.WalkSpells
import GoSem.Op.String
import Derived.Deep.AppendLies
import Derived.Deep.RegionHeld3
import Derived.Deep.DrawnRows
import Derived.Deep.RegionHeldLaw
import Derived.Deep.RegionLaw
import Derived.Lib.ParseIntBCases
import Derived.Deep.OwnRows
import Derived.Lib.LaidTab
import Derived.Lib.AppendIntMem
import Derived.Shelf.Strings.Builder1
set_option linter.unusedVariables false
set_option linter.unusedSimpArgs false
namespace Go.Proofs.YtfkdailfcmnjlaaGreatDoor
open Go Go.RowKit
set_option maxRecDepth 100000

theorem item_name {F : Nat} {ts : List Tok} {i : Nat} {L : List Pt} {r : ItR} (h : itemP F ts i L = some r) (ok : r.ok = true) : r.it.name = [] ∨ ∃ t ∈ ts, r.it.name = t.text := by
  have tail : ∀ (j : Nat) (x : Itm), itemTail F ts j L x = some r → r.it.name = x.name := by
    intro j x hr
    obtain ⟨a, ha, hres⟩ := tail_parts hr
    rcases hres with ⟨oka, hw, rfl⟩ | ⟨_, hr1, _⟩
    · rfl
    · rw [hr1] at ok; simp at ok
  unfold itemP at h
  split at h
  · split at h
    · rename_i hk
      split at h
      · have hm := (inside (ts := ts) (i := i + 1) fun e => by rw [e] at hk; exact absurd hk (by decide)).2
        exact .inr ⟨_, hm, tail _ _ h⟩
      · simp [itFail] at h; subst h; simp at ok
    · simp [itFail] at h; subst h; simp at ok
  · split at h
    · split at h
      · exact .inl (tail _ _ h)
      · simp [itFail] at h; subst h; simp at ok
    · simp [itFail] at h; subst h; simp at ok
theorem parse_named {F : Nat} {ts : List Tok} (g : Nat) : ∀ (i : Nat) (L : List Pt) (xs : List Itm) (R : AllR), (∀ x ∈ xs, x.name = [] ∨ ∃ t ∈ ts, x.name = t.text) → parseAll F ts g i L xs = some R → R.ok = true → ∀ x ∈ R.xs, x.name = [] ∨ ∃ t ∈ ts, x.name = t.text := by
  induction g with
  | zero => intro i L xs R _ h; rw [parseAll] at h; simp at h
  | succ g ih =>
    intro i L xs R hT h ok
    by_cases hk : (tokAt ts i).k = 101
    · have := parse_end h hk; subst this; exact hT
    · rw [parseAll, if_neg hk] at h
      cases hr : itemP F ts i L with
      | none => rw [hr] at h; simp at h
      | some r =>
        rw [hr] at h
        simp only at h
        by_cases okr : r.ok = true
        · rw [if_pos okr] at h
          refine ih r.i r.L (xs ++ [r.it]) R (fun x hx => ?_) h ok
          rcases List.mem_append.1 hx with hx | hx
          · exact hT x hx
          · rw [List.mem_singleton] at hx; subst hx; exact item_name hr okr
        · rw [if_neg okr] at h; simp at h; subst h; simp at ok

/-- What a text that was read gives for its plain form. -/
structure PrintOK (L : List Pt) (xs : List Itm) : Prop where
  parts : PlainOK L
  trees : TreesAt L xs 0
  names : ∀ x ∈ xs, x.name.length ≤ 1000
theorem print_known (l : List UInt8) (h0 : (readOf l).1.1 = 0) : PrintOK (readOf l).2.1 (readOf l).2.2 := by
  unfold readOf at *
  by_cases h1 : 1000 < l.length
  · rw [if_pos h1] at h0; simp at h0
  · rw [if_neg h1] at h0 ⊢
    cases hx : (lex (l.length + 1) l 0).2 with
    | some p => rw [hx] at h0; simp at h0
    | none =>
      rw [hx] at h0
      simp only [] at h0 ⊢
      have hlex : lex (l.length + 1) l 0 = ((lex (l.length + 1) l 0).1, none) := by rw [← hx]
      obtain ⟨r1, r2, r3, r4, r5⟩ := lex_ok l (by omega) (l.length + 1) 0 _ (Nat.zero_le _) (by omega) hlex
      obtain ⟨hwo, hwl⟩ := lex_words l (l.length + 1) 0 _ (Nat.zero_le _) (by omega) hlex
      generalize (lex (l.length + 1) l 0).1 = ts at *
      obtain ⟨R, hR⟩ := parse_total (F := 16 * ts.length + 8) (Nat.le_refl _) r4 (ts.length + 1) 0 [] [] (by omega)
      have e : allOf ts = R := by unfold allOf; rw [hR]; rfl
      rw [e] at h0 ⊢
      have ok : R.ok = true := by
        cases hk : R.ok with
        | true => rfl
        | false => unfold verdictOf at h0; rw [if_pos hk] at h0; simp at h0
      obtain ⟨k1, k2, k3⟩ := all_known hwo (by omega) hR ok
      obtain ⟨_, k4, _, _⟩ := parse_trees hwo.sorted _ 0 [] [] R rfl ⟨by simp, by simp, by simp⟩ (by simp) (by omega) hR ok
      have k5 := parse_named _ 0 [] [] R (by simp) hR ok
      refine ⟨⟨k3, fun k hk => (r3 _ (k4.2.2 k hk)).1, fun k hk hn => ((r3 _ (k4.2.2 k hk)).2 hn).2, k2.few⟩, k1, fun x hx => ?_⟩
      rcases k5 x hx with h | ⟨t, ht, h⟩
      · rw [h]; simp
      · rw [h]; exact (r3 t ht).1

end Go.Proofs.YtfkdailfcmnjlaaGreatDoor

namespace Go.Proofs.YtfkdailfcmnjlaaGreatDoor
open Go Go.RowKit
set_option maxRecDepth 100000
attribute [local go_sem ↓] Go.wp_at_zero Go.wp_at_succ

def intCells (l : List Int) : List Value := l.map fun v => Value.int .i64 v
/-- The policy lies in memory, what the items so far told, and the fields. -/
structure TelIn (B gi c g cap gf : Nat) (xs : List Itm) (ps : List PartS) (bv : Value) (vals fl : List Int) (w : World) : Prop where
  items : ItemsIn B (.slice (some ⟨gi, 0, none⟩) xs.length c) xs w
  parts : PartsIn B g cap ps w
  row : w.ownsRow B 2 1 bv vals.length (intCells vals)
  len : vals.length ≤ xs.length
  fields : ∀ i, i < 9 → w.cell? ⟨gf, i, none⟩ = some (.int .i64 (fl.getD i 0))
theorem TelIn.below {B gi c g cap gf : Nat} {xs : List Itm} {ps : List PartS} {bv : Value} {vals fl : List Int} {w w' : World} (h : TelIn B gi c g cap gf xs ps bv vals fl w) (hb : Below w.heap.size w w') : TelIn B gi c g cap gf xs ps bv vals fl w' :=
  ⟨h.items.below hb, h.parts.below hb, ownsRow_below h.row hb, h.len, fun i hi => by rw [hb.cell (p := ⟨gf, i, none⟩) (World.block_lt_of_cell? w _ (h.fields i hi))]; exact h.fields i hi⟩
end Go.Proofs.YtfkdailfcmnjlaaGreatDoor

namespace Go.Proofs.YtfkdailfcmnjlaaGreatDoor
open Go Go.RowKit
set_option maxRecDepth 100000
attribute [local go_sem ↓] Go.wp_at_zero Go.wp_at_succ

/-- What Print answers. -/
def textOf (l : List UInt8) : List UInt8 := if (readOf l).1.1 = 0 then printL (readOf l).2.1 (readOf l).2.2 else []
end Go.Proofs.YtfkdailfcmnjlaaGreatDoor

namespace Go.Proofs.YtfkdailfcmnjlaaGreatDoor
open Go Go.RowKit
set_option maxRecDepth 100000

/-- The first rule that tells true, and its number. -/
def meanL (xs : List Itm) (fl : List Int) (L : List Pt) : List Itm → List Int → Nat → Option (Bool × Nat)
  | [], _, _ => none
  | x :: r, vals, n =>
    if x.name = [] then (if tellF xs vals fl L (x.top + 1) x.top = 1 then some (x.allow, n + 1) else meanL xs fl L r (vals ++ [tellF xs vals fl L (x.top + 1) x.top]) (n + 1))
    else meanL xs fl L r (vals ++ [tellF xs vals fl L (x.top + 1) x.top]) n
/-- What Mean answers of a text. -/
def meanOf (l : List UInt8) (fl : List Int) : Bool × Nat := if (readOf l).1.1 = 0 then (meanL (readOf l).2.2 fl (readOf l).2.1 (readOf l).2.2 [] 0).getD (false, 0) else (false, 0)

/-- What a text that was read gives for what it says. -/
structure MeanOK (L : List Pt) (xs : List Itm) : Prop where
  print : PrintOK L xs
  parts : PartsOK L
  names : namesAt xs L xs 0 0 = none
  types : typesAt xs L xs [] = none
theorem mean_known2 (l : List UInt8) (h0 : (readOf l).1.1 = 0) : PartsOK (readOf l).2.1 ∧ namesAt (readOf l).2.2 (readOf l).2.1 (readOf l).2.2 0 0 = none ∧ typesAt (readOf l).2.2 (readOf l).2.1 (readOf l).2.2 [] = none := by
  unfold readOf at *
  by_cases h1 : 1000 < l.length
  · rw [if_pos h1] at h0; simp at h0
  · rw [if_neg h1] at h0 ⊢
    cases hx : (lex (l.length + 1) l 0).2 with
    | some p => rw [hx] at h0; simp at h0
    | none =>
      rw [hx] at h0
      simp only [] at h0 ⊢
      have hlex : lex (l.length + 1) l 0 = ((lex (l.length + 1) l 0).1, none) := by rw [← hx]
      obtain ⟨r1, r2, r3, r4, r5⟩ := lex_ok l (by omega) (l.length + 1) 0 _ (Nat.zero_le _) (by omega) hlex
      obtain ⟨hwo, hwl⟩ := lex_words l (l.length + 1) 0 _ (Nat.zero_le _) (by omega) hlex
      generalize (lex (l.length + 1) l 0).1 = ts at *
      obtain ⟨R, hR⟩ := parse_total (F := 16 * ts.length + 8) (Nat.le_refl _) r4 (ts.length + 1) 0 [] [] (by omega)
      have e : allOf ts = R := by unfold allOf; rw [hR]; rfl
      rw [e] at h0 ⊢
      have ok : R.ok = true := by
        cases hk : R.ok with
        | true => rfl
        | false => unfold verdictOf at h0; rw [if_pos hk] at h0; simp at h0
      refine ⟨(all_known hwo (by omega) hR ok).2.1, ?_⟩
      unfold verdictOf at h0
      rw [if_neg (by rw [ok]; simp)] at h0
      cases hm : manyAt R.L R.xs 0 0 with
      | some p => rw [hm] at h0; simp at h0
      | none =>
        rw [hm] at h0
        simp only [] at h0
        cases hn : namesAt R.xs R.L R.xs 0 0 with
        | some p => rw [hn] at h0; simp at h0
        | none =>
          rw [hn] at h0
          simp only [] at h0
          cases ht : typesAt R.xs R.L R.xs [] with
          | some p => rw [ht] at h0; simp at h0
          | none => exact ⟨rfl, rfl⟩
theorem mean_known (l : List UInt8) (h0 : (readOf l).1.1 = 0) : MeanOK (readOf l).2.1 (readOf l).2.2 := by
  obtain ⟨a, b, c⟩ := mean_known2 l h0
  exact ⟨print_known l h0, a, b, c⟩

/-- At an item, with what the ones ahead told. -/
def MeanAt (xs : List Itm) (L : List Pt) (j : Nat) (vals : List Int) : Prop :=
  ∃ its fr, ValsOK its vals ∧ its.length = j ∧ TreesAt L (xs.drop j) fr ∧ namesAt xs L (xs.drop j) fr j = none ∧ typesAt xs L (xs.drop j) its = none
theorem MeanAt.item {xs : List Itm} {L : List Pt} {j : Nat} {vals : List Int} (hL : PartsOK L) (h : MeanAt xs L j vals) (hj : j < xs.length) :
    ∃ its lo, ValsOK its vals ∧ its.length = j ∧ TreeF (xs[j].top + 1) L lo xs[j].top ∧ Given xs its.length L lo (xs[j].top + 1) ∧ tyOf xs its L (xs[j].top + 1) xs[j].top ≠ 0 := by
  obtain ⟨its, fr, hV, hl, hT, hN, hY⟩ := h
  rw [List.drop_eq_getElem_cons hj] at hT hN hY
  refine ⟨its, fr, hV, hl, hT.1.fit, ?_, fun e => ?_⟩
  · rw [hl]; exact (names_given hL hT.1 hT.2.1 hN).1
  · rw [typesAt, if_pos (.inl (by rw [e]; rfl))] at hY; simp at hY
theorem MeanAt.next {xs : List Itm} {L : List Pt} {fl : List Int} {j : Nat} {vals : List Int} (hL : PartsOK L) (hP : PlainOK L) (hF : FieldsOK fl) (h : MeanAt xs L j vals) (hj : j < xs.length) :
    MeanAt xs L (j + 1) (vals ++ [tellF xs vals fl L (xs[j].top + 1) xs[j].top]) := by
  obtain ⟨its, fr, hV, hl, hT, hN, hY⟩ := h
  rw [List.drop_eq_getElem_cons hj] at hT hN hY
  obtain ⟨hg, hn2⟩ := names_given hL hT.1 hT.2.1 hN
  rw [typesAt] at hY
  by_cases hc : (tyOf xs its L (xs[j].top + 1) xs[j].top).toNat = 0 ∨ (xs[j].name = [] ∧ (tyOf xs its L (xs[j].top + 1) xs[j].top).toNat ≠ 116)
  · rw [if_pos hc] at hY; simp at hY
  · rw [if_neg hc] at hY
    refine ⟨its ++ [tyOf xs its L (xs[j].top + 1) xs[j].top], xs[j].parts, hV.snoc ?_, by simp [hl], hT.2.2, hn2, hY⟩
    refine tell_has hV hF hP.num _ hT.1.fit (by rw [hl]; exact hg) fun e => hc (.inl (by rw [e]; rfl))
theorem fields_ok (e : Ev) (s : Stt) (h1 : In64 e.need) (h2 : In64 e.when_) (h3 : In64 s.dflt) (hl : ∀ x ∈ s.levels, In64 x.2) : FieldsOK (fieldsL e s) := by
  have hfi : ∀ (ls : List (List UInt8 × Int)) (u : List UInt8), (∀ x ∈ ls, In64 x.2) → In64 (firstI s.dflt ls u) := fun ls u => by
    induction ls with
    | nil => intro _; exact h3
    | cons x r ih =>
      intro h
      rw [firstI]; split
      · exact h x (by simp)
      · exact ih fun y hy => h y (by simp [hy])
  have hkn : ∀ n : Int, In64 (knownI n) := fun n => by unfold knownI In64; split <;> omega
  have hfk : ∀ (ls : List (List UInt8 × Int)) (u : List UInt8), In64 (firstK ls u) := fun ls u => by
    induction ls with
    | nil => unfold firstK In64; omega
    | cons x r ih => rw [firstK]; split; exact hkn _; exact ih
  refine ⟨rfl, fun i hi => ?_⟩
  have e9 : i = 0 ∨ i = 1 ∨ i = 2 ∨ i = 3 ∨ i = 4 ∨ i = 5 ∨ i = 6 ∨ i = 7 ∨ i = 8 := by omega
  rcases e9 with rfl | rfl | rfl | rfl | rfl | rfl | rfl | rfl | rfl
  · exact ⟨hfi _ _ hl, fun e => absurd e (by decide)⟩
  · exact ⟨hfi _ _ hl, fun e => absurd e (by decide)⟩
  · exact ⟨h1, fun e => absurd e (by decide)⟩
  · exact ⟨h2, fun e => absurd e (by decide)⟩
  · exact ⟨hfk _ _, fun e => absurd e (by decide)⟩
  · exact ⟨hfk _ _, fun e => absurd e (by decide)⟩
  · exact ⟨hkn _, fun e => absurd e (by decide)⟩
  · exact has_truth _ _
  · exact has_truth _ _
end Go.Proofs.YtfkdailfcmnjlaaGreatDoor

namespace Go.Proofs.YtfkdailfcmnjlaaGreatDoor
open Go Go.RowKit
set_option maxRecDepth 100000
attribute [local go_sem ↓] Go.wp_at_zero Go.wp_at_succ

def verV (r : Bool × Nat) : Value := .agg #[.bool r.1, .int .i64 r.2, .int .i64 0]

theorem ver_cells {w : World} {b : Nat} {x0 x1 x2 : Value} (h : w.heap[b]? = some (.cells #[x0, x1, x2] 40 (0, 0))) : (w.cell? ⟨b, 0, none⟩ = some x0 ∧ w.cell? ⟨b, 1, none⟩ = some x1 ∧ w.cell? ⟨b, 2, none⟩ = some x2) ∧ ∀ j, w.frozen? ⟨b, j, none⟩ = false := by
  have hc := fun j => cell_of_row w b j _ _ _ h
  exact ⟨⟨hc 0, hc 1, hc 2⟩, fun j => by simp [World.frozen?, h]⟩
end Go.Proofs.YtfkdailfcmnjlaaGreatDoor

namespace Go.Proofs.YtfkdailfcmnjlaaGreatDoor
open Go Go.RowKit
set_option maxRecDepth 100000

theorem fields_t {fl : List Int} (h : FieldsOK fl) : FieldsT fl := fun n hn => by
  have h1 := h.has n (by omega)
  refine ⟨h1.1, fun e => h1.2 ?_⟩
  have : n = 0 ∨ n = 1 ∨ n = 2 ∨ n = 3 ∨ n = 4 ∨ n = 5 ∨ n = 6 ∨ n = 7 ∨ n = 8 := by omega
  rcases this with rfl | rfl | rfl | rfl | rfl | rfl | rfl | rfl | rfl <;> first | rfl | (exfalso; revert e; decide)
theorem tcode_two {c : UInt8} (h : tcode c = 2) : c = 116 := by
  unfold tcode at h
  split at h
  · simp at h
  · split at h
    · rename_i e; exact UInt8.toNat_inj.1 e
    · split at h <;> simp at h
theorem lets_has : ∀ (xs : List Itm) (its : List UInt8) (vals : List Int), vals.length = its.length → (∀ i, i < its.length → Has (its.getD i 0) (vals.getD i 0)) → LetsT (letTys xs its) (letVals xs vals)
  | [], its, vals, _, _ => fun i hi => by cases its <;> simp [letTys] at hi
  | x :: xs, [], vals, _, _ => fun i hi => by simp [letTys] at hi
  | x :: xs, c :: its, [], h, _ => by simp at h
  | x :: xs, c :: its, v :: vals, h, hh => by
    have ih := lets_has xs its vals (by simpa using h) fun i hi => by have := hh (i + 1) (by simpa using hi); simpa using this
    rw [letTys, letVals]
    split
    · exact ih
    · intro i hi
      cases i with
      | zero =>
        have h0 := hh 0 (by simp)
        simp only [List.getD_cons_zero] at h0 ⊢
        exact ⟨h0.1, fun e => h0.2 (tcode_two e)⟩
      | succ i => rw [List.getD_cons_succ] at hi ⊢; rw [List.getD_cons_succ]; exact ih i hi

/-- At an item, with what the ones ahead told, and their types. -/
def MeanAt2 (xs : List Itm) (L : List Pt) (j : Nat) (vals : List Int) : Prop :=
  ∃ its fr, ValsOK its vals ∧ its.length = j ∧ TreesAt L (xs.drop j) fr ∧ namesAt xs L (xs.drop j) fr j = none ∧ typesAt xs L (xs.drop j) its = none ∧ ∀ c ∈ its, isTy c
theorem MeanOK.start2 {L : List Pt} {xs : List Itm} (h : MeanOK L xs) : MeanAt2 xs L 0 [] :=
  ⟨[], 0, ⟨rfl, fun i hi => by simp at hi⟩, rfl, h.print.trees, h.names, h.types, by simp⟩
/-- What there is for an item. -/
structure ItemOK (xs : List Itm) (L : List Pt) (fl : List Int) (j : Nat) (vals : List Int) (lt : List Nat) : Prop where
  tree : ∃ lo, TreeF ((xs.getD j noItm).top + 1) L lo (xs.getD j noItm).top
  wf : WfT ((xs.getD j noItm).top + 1) (toTr (idx (giv xs)) L ((xs.getD j noItm).top + 1) (xs.getD j noItm).top)
  ty : tyTr lt ((xs.getD j noItm).top + 1) (toTr (idx (giv xs)) L ((xs.getD j noItm).top + 1) (xs.getD j noItm).top) ≠ 0
  ev : evT (letVals (xs.take j) vals) fl ((xs.getD j noItm).top + 1) (toTr (idx (giv xs)) L ((xs.getD j noItm).top + 1) (xs.getD j noItm).top) = tellF xs vals fl L ((xs.getD j noItm).top + 1) (xs.getD j noItm).top
  lets : LetsT lt (letVals (xs.take j) vals)
  len : lt.length ≤ (letVals (xs.take j) vals).length
theorem MeanAt2.item {xs : List Itm} {L : List Pt} {fl : List Int} {j : Nat} {vals : List Int} (hL : PartsOK L) (hP : PlainOK L) (h : MeanAt2 xs L j vals) (hj : j < xs.length) : (∃ lt, ItemOK xs L fl j vals lt) ∧ vals.length = j := by
  obtain ⟨its, fr, hV, hl, hT, hN, hY, hI⟩ := h
  rw [drop_head hj noItm] at hT hN hY
  have hg : Given xs its.length L fr ((xs.getD j noItm).top + 1) := by rw [hl]; exact (names_given hL hT.1 hT.2.1 hN).1
  have hty : tyOf xs its L ((xs.getD j noItm).top + 1) (xs.getD j noItm).top ≠ 0 := fun e => by
    rw [typesAt, if_pos (.inl (by rw [e]; rfl))] at hY; simp at hY
  have hvl := hV.len
  have ht := to_tr (vals := vals) (fl := fl) hP.tokw hI (by omega) hvl hP.num _ hT.1.fit hg hty
  have e1 : letVals (xs.take vals.length) vals = letVals (xs.take j) vals := by rw [hvl, hl]
  have h1 := ht.ty
  rw [hl] at h1
  refine ⟨⟨letTys (xs.take j) its, ⟨fr, hT.1.fit⟩, ht.wf, ?_, by rw [← e1]; exact ht.ev, lets_has _ _ _ hvl fun i hi => hV.has i hi, ?_⟩, by omega⟩
  · rw [h1]
    intro e
    rcases tyOf_ty hP.tokw hI _ hT.1.fit hg with h0 | h0
    · exact hty h0
    · exact hty ((tcode_zero (.inr h0)).1 e)
  · rw [letTys_len _ _ (by simp; omega), letVals_len _ _ (by simp; omega)]; exact Nat.le_refl _
theorem MeanAt2.next {xs : List Itm} {L : List Pt} {fl : List Int} {j : Nat} {vals : List Int} (hL : PartsOK L) (hP : PlainOK L) (hF : FieldsOK fl) (h : MeanAt2 xs L j vals) (hj : j < xs.length) :
    MeanAt2 xs L (j + 1) (vals ++ [tellF xs vals fl L ((xs.getD j noItm).top + 1) (xs.getD j noItm).top]) := by
  obtain ⟨its, fr, hV, hl, hT, hN, hY, hI⟩ := h
  rw [drop_head hj noItm] at hT hN hY
  obtain ⟨hg0, hn2⟩ := names_given hL hT.1 hT.2.1 hN
  have hg : Given xs its.length L fr ((xs.getD j noItm).top + 1) := by rw [hl]; exact hg0
  rw [typesAt] at hY
  by_cases hc : (tyOf xs its L ((xs.getD j noItm).top + 1) (xs.getD j noItm).top).toNat = 0 ∨ ((xs.getD j noItm).name = [] ∧ (tyOf xs its L ((xs.getD j noItm).top + 1) (xs.getD j noItm).top).toNat ≠ 116)
  · rw [if_pos hc] at hY; simp at hY
  · rw [if_neg hc] at hY
    have hne : tyOf xs its L ((xs.getD j noItm).top + 1) (xs.getD j noItm).top ≠ 0 := fun e => hc (.inl (by rw [e]; rfl))
    refine ⟨its ++ [tyOf xs its L ((xs.getD j noItm).top + 1) (xs.getD j noItm).top], (xs.getD j noItm).parts, hV.snoc ?_, by simp [hl], hT.2.2, hn2, hY, ?_⟩
    · exact tell_has hV hF hP.num _ hT.1.fit hg hne
    · intro c hcm
      simp only [List.mem_append, List.mem_singleton] at hcm
      rcases hcm with hcm | rfl
      · exact hI c hcm
      · rcases tyOf_ty hP.tokw hI _ hT.1.fit hg with h0 | h0
        · exact absurd h0 hne
        · exact h0
end Go.Proofs.YtfkdailfcmnjlaaGreatDoor

namespace Go.Proofs.YtfkdailfcmnjlaaGreatDoor
open Go Go.RowKit
set_option maxRecDepth 100000
attribute [local go_sem ↓] Go.wp_at_zero Go.wp_at_succ
variable {bs : Nat}

theorem info_val : (Tryz.prog.info? 112).map (fun i => (i.zero, i.size, i.bytes)) = some (some (.int .i64 0), 1, 8) := by kernel_rfl
/-- A row of numbers. -/
theorem val_row {w : World} {base : Nat} {v : Value} {l : List Int} (h : w.ownsRow base 112 1 v l.length (intCells l)) : ∃ a cap, v = .slice a l.length cap ∧ IntAt w a l := by
  obtain ⟨hl, h⟩ := h
  rcases h with ⟨rfl, h0⟩ | ⟨g, cap, cur, rfl, hb, hg, h1, h2, h3, h4⟩
  · exact ⟨none, 0, by rw [h0], fun k hk => by omega⟩
  · refine ⟨_, cap, rfl, fun k hk => ⟨g, rfl, ?_⟩⟩
    rw [cell_of_row w g k _ _ _ hg]
    have e1 : cur[k]? = (cur.toList.take (l.length * 1))[k]? := by
      rw [List.getElem?_take_of_lt (by omega)]; simp
    rw [e1, h4]
    unfold intCells
    simp [hk, List.getD_eq_getElem?_getD]
/-- The teller's block. -/
def telObj (fl : List Int) (lv : Value) : Obj := .cells #[.int .i64 (fl.getD 0 0), .int .i64 (fl.getD 1 0), .int .i64 (fl.getD 2 0), .int .i64 (fl.getD 3 0), .int .i64 (fl.getD 4 0), .int .i64 (fl.getD 5 0), .int .i64 (fl.getD 6 0), .int .i64 (fl.getD 7 0), .int .i64 (fl.getD 8 0), lv] 181 (0, 0)
def flV (fl : List Int) : Value := .agg #[.int .i64 (fl.getD 0 0), .int .i64 (fl.getD 1 0), .int .i64 (fl.getD 2 0), .int .i64 (fl.getD 3 0), .int .i64 (fl.getD 4 0), .int .i64 (fl.getD 5 0), .int .i64 (fl.getD 6 0), .int .i64 (fl.getD 7 0), .int .i64 (fl.getD 8 0)]
theorem tel_at {w : World} {tb : Nat} {fl : List Int} {lv : Value} (h : w.heap[tb]? = some (telObj fl lv)) : TelAt w tb fl lv := by
  unfold telObj at h
  have hc := fun j => cell_of_row w tb j _ _ _ h
  refine ⟨fun i hi => ?_, hc 9⟩
  have : i = 0 ∨ i = 1 ∨ i = 2 ∨ i = 3 ∨ i = 4 ∨ i = 5 ∨ i = 6 ∨ i = 7 ∨ i = 8 := by omega
  rcases this with rfl | rfl | rfl | rfl | rfl | rfl | rfl | rfl | rfl
  · exact hc 0
  · exact hc 1
  · exact hc 2
  · exact hc 3
  · exact hc 4
  · exact hc 5
  · exact hc 6
  · exact hc 7
  · exact hc 8
theorem meanL_at {xs : List Itm} {fl : List Int} {L : List Pt} {k : Nat} (h : k < xs.length) (vals : List Int) (n : Nat) : meanL xs fl L (xs.drop k) vals n = if (xs.getD k noItm).name = [] then (if tellF xs vals fl L ((xs.getD k noItm).top + 1) (xs.getD k noItm).top = 1 then some ((xs.getD k noItm).allow, n + 1) else meanL xs fl L (xs.drop (k + 1)) (vals ++ [tellF xs vals fl L ((xs.getD k noItm).top + 1) (xs.getD k noItm).top]) (n + 1))
    else meanL xs fl L (xs.drop (k + 1)) (vals ++ [tellF xs vals fl L ((xs.getD k noItm).top + 1) (xs.getD k noItm).top]) n := by
  rw [drop_head h noItm, meanL]

/-- What Mean keeps from item to item. -/
def MeanRel (bs : Nat) (L : List Pt) (xs : List Itm) (ys : List (Tok × Tok × Nat × Int)) (fl : List Int) (w : World) (r : Bool × Nat) (k : Nat) (lv : Value) (wr : World) : Prop :=
  ∃ (vals : List Int) (l q : Nat), MeanAt2 xs L k vals ∧ r = (meanL xs fl L (xs.drop k) vals q).getD (false, 0) ∧ Numb l q (xs.drop k) (ys.drop k) ∧ ItemsAt (CondS bs L (N1 (idx (giv xs))) w) (xs.drop k) (ys.drop k) ∧ wr.ownsRow (w.heap.size + 3) 112 1 lv (letVals (xs.take k) vals).length (intCells (letVals (xs.take k) vals)) ∧ q ≤ k

theorem below_far3 {w w5 w3 : World} {o : Obj} {base : Nat} {e : TypeId} {size : Nat} {v : Value} {n : Nat} {l : List Value} (hB : Below w.heap.size w w5) (hown : w5.ownsRow base e size v n l) (hg : (w5.alloc o).grownBy w3 v.ownBlock) (hb : w.heap.size ≤ base) : Below w.heap.size w w3 := by
  have hs := hB.size
  have hs2 := hg.size
  simp at hs2
  refine ⟨hg.os.trans hB.os, hg.tape.trans hB.tape, hg.output.trans hB.output, by omega, fun k hk => ?_⟩
  rw [hg.block k (by simp; omega) (fun e => by have := (hown.lt _ e.symm).1; omega), Below.heap_alloc w5 o k (by omega)]
  exact hB.block k hk
set_option maxHeartbeats 8000000 in
theorem pmean_any {L : List Pt} {xs : List Itm} {ys : List (Tok × Tok × Nat × Int)} {base : Nat} {v : Value} {w : World} {fl : List Int} (hP : PolAt bs L xs base v ys w) (hM : MeanOK L xs) (hF : FieldsOK fl) :
    Calls Tryz.prog 39 #[v, flV fl] w fun e w' => e = .returned (verV ((meanL xs fl L xs [] 0).getD (false, 0))) ∧ Below w.heap.size w w' := by
  obtain ⟨a, cap, rfl, hcell⟩ := row_cells hP.row
  obtain ⟨i0, hi, hz0, hz1, hz2⟩ := info_parts info_val
  have hlen : Hid _ := hP.items.len
  have hyl := hP.few
  have HC : Hid _ := hcell
  have HL : Hid (PartsOK L) := hM.parts
  have HPL : Hid (PlainOK L) := hM.print.parts
  have HF : Hid (FieldsOK fl) := hF
  have HF2 : Hid (FieldsT fl) := fields_t hF
  have HVV : Hid (verV = fun r => .agg #[.bool r.1, .int .i64 r.2, .int .i64 0]) := rfl
  generalize hr : (meanL xs fl L xs [] 0).getD (false, 0) = r at *
  have hrel0 : MeanRel bs L xs ys fl w r 0 (.slice none 0 0) (((w.alloc (.cells #[.int .i64 (fl.getD 0 0), .int .i64 (fl.getD 1 0), .int .i64 (fl.getD 2 0), .int .i64 (fl.getD 3 0), .int .i64 (fl.getD 4 0), .int .i64 (fl.getD 5 0), .int .i64 (fl.getD 6 0), .int .i64 (fl.getD 7 0), .int .i64 (fl.getD 8 0)] 114 (0, 0))).alloc (.cells #[.bool false, .int .i64 0, .int .i64 0] 40 (0, 0))).alloc (telObj fl (.slice none 0 0))) :=
    ⟨[], 0, 0, hM.start2, hr.symm, hP.numb, hP.items, World.ownsRow_nil _ _ _ _, Nat.le_refl _⟩
  have hB0 : Below w.heap.size w (((w.alloc (.cells #[.int .i64 (fl.getD 0 0), .int .i64 (fl.getD 1 0), .int .i64 (fl.getD 2 0), .int .i64 (fl.getD 3 0), .int .i64 (fl.getD 4 0), .int .i64 (fl.getD 5 0), .int .i64 (fl.getD 6 0), .int .i64 (fl.getD 7 0), .int .i64 (fl.getD 8 0)] 114 (0, 0))).alloc (.cells #[.bool false, .int .i64 0, .int .i64 0] 40 (0, 0))).alloc (telObj fl (.slice none 0 0))) := (((Below.refl _ _).alloc (Nat.le_refl _) _).alloc (by simp) _).alloc (by simp; omega) _
  have hT0 : (((w.alloc (.cells #[.int .i64 (fl.getD 0 0), .int .i64 (fl.getD 1 0), .int .i64 (fl.getD 2 0), .int .i64 (fl.getD 3 0), .int .i64 (fl.getD 4 0), .int .i64 (fl.getD 5 0), .int .i64 (fl.getD 6 0), .int .i64 (fl.getD 7 0), .int .i64 (fl.getD 8 0)] 114 (0, 0))).alloc (.cells #[.bool false, .int .i64 0, .int .i64 0] 40 (0, 0))).alloc (telObj fl (.slice none 0 0))).heap[w.heap.size + 1 + 1]? = some (telObj fl (.slice none 0 0)) := by
    have e := heap_alloc_new ((w.alloc (.cells #[.int .i64 (fl.getD 0 0), .int .i64 (fl.getD 1 0), .int .i64 (fl.getD 2 0), .int .i64 (fl.getD 3 0), .int .i64 (fl.getD 4 0), .int .i64 (fl.getD 5 0), .int .i64 (fl.getD 6 0), .int .i64 (fl.getD 7 0), .int .i64 (fl.getD 8 0)] 114 (0, 0))).alloc (.cells #[.bool false, .int .i64 0, .int .i64 0] 40 (0, 0))) (telObj fl (.slice none 0 0)); rw [World.size_alloc, World.size_alloc] at e; exact e
  have hV0 : (((w.alloc (.cells #[.int .i64 (fl.getD 0 0), .int .i64 (fl.getD 1 0), .int .i64 (fl.getD 2 0), .int .i64 (fl.getD 3 0), .int .i64 (fl.getD 4 0), .int .i64 (fl.getD 5 0), .int .i64 (fl.getD 6 0), .int .i64 (fl.getD 7 0), .int .i64 (fl.getD 8 0)] 114 (0, 0))).alloc (.cells #[.bool false, .int .i64 0, .int .i64 0] 40 (0, 0))).alloc (telObj fl (.slice none 0 0))).heap[w.heap.size + 1]? = some (.cells #[.bool false, .int .i64 0, .int .i64 0] 40 (0, 0)) := by
    rw [Below.heap_alloc _ _ _ (by simp)]
    have e := heap_alloc_new (w.alloc (.cells #[.int .i64 (fl.getD 0 0), .int .i64 (fl.getD 1 0), .int .i64 (fl.getD 2 0), .int .i64 (fl.getD 3 0), .int .i64 (fl.getD 4 0), .int .i64 (fl.getD 5 0), .int .i64 (fl.getD 6 0), .int .i64 (fl.getD 7 0), .int .i64 (fl.getD 8 0)] 114 (0, 0))) (.cells #[.bool false, .int .i64 0, .int .i64 0] 40 (0, 0)); rw [World.size_alloc] at e; exact e
  have hS0 : w.heap.size + 3 ≤ (((w.alloc (.cells #[.int .i64 (fl.getD 0 0), .int .i64 (fl.getD 1 0), .int .i64 (fl.getD 2 0), .int .i64 (fl.getD 3 0), .int .i64 (fl.getD 4 0), .int .i64 (fl.getD 5 0), .int .i64 (fl.getD 6 0), .int .i64 (fl.getD 7 0), .int .i64 (fl.getD 8 0)] 114 (0, 0))).alloc (.cells #[.bool false, .int .i64 0, .int .i64 0] 40 (0, 0))).alloc (telObj fl (.slice none 0 0))).heap.size := by simp
  have H0 : Hid _ := And.intro hrel0 (And.intro hB0 (And.intro hT0 (And.intro hV0 hS0)))
  clear hP hM hF hcell hr hrel0 hB0 hT0 hV0 hS0
  unfold flV
  unfold telObj at H0
  generalize hf0 : fl.getD 0 0 = f0 at *
  generalize hf1 : fl.getD 1 0 = f1 at *
  generalize hf2 : fl.getD 2 0 = f2 at *
  generalize hf3 : fl.getD 3 0 = f3 at *
  generalize hf4 : fl.getD 4 0 = f4 at *
  generalize hf5 : fl.getD 5 0 = f5 at *
  generalize hf6 : fl.getD 6 0 = f6 at *
  generalize hf7 : fl.getD 7 0 = f7 at *
  generalize hf8 : fl.getD 8 0 = f8 at *
  have HTO : Hid (∀ lv, telObj fl lv = .cells #[.int .i64 f0, .int .i64 f1, .int .i64 f2, .int .i64 f3, .int .i64 f4, .int .i64 f5, .int .i64 f6, .int .i64 f7, .int .i64 f8, lv] 181 (0, 0)) := fun lv => by unfold telObj; rw [hf0, hf1, hf2, hf3, hf4, hf5, hf6, hf7, hf8]
  clear hf0 hf1 hf2 hf3 hf4 hf5 hf6 hf7 hf8
  go_enter Tryz.func39, Tryz.ntmps39
  go_wp2_with fail
  obtain ⟨hrel0, hB0, hT0, hV0, hS0⟩ := H0.out
  clear H0
  generalize (((w.alloc (.cells #[.int .i64 f0, .int .i64 f1, .int .i64 f2, .int .i64 f3, .int .i64 f4, .int .i64 f5, .int .i64 f6, .int .i64 f7, .int .i64 f8] 114 (0, 0))).alloc (.cells #[.bool false, .int .i64 0, .int .i64 0] 40 (0, 0))).alloc (.cells #[.int .i64 f0, .int .i64 f1, .int .i64 f2, .int .i64 f3, .int .i64 f4, .int .i64 f5, .int .i64 f6, .int .i64 f7, .int .i64 f8, .slice none 0 0] 181 (0, 0))) = wz at *
  go_loopw [14] (fun kv wr => ∃ (k : Nat) (lv : Value), k ≤ ys.length ∧ kv = .int .i64 k ∧ Hid (MeanRel bs L xs ys fl w r k lv wr) ∧ Below w.heap.size w wr ∧ wr.heap[w.heap.size + 1 + 1]? = some (.cells #[.int .i64 f0, .int .i64 f1, .int .i64 f2, .int .i64 f3, .int .i64 f4, .int .i64 f5, .int .i64 f6, .int .i64 f7, .int .i64 f8, lv] 181 (0, 0)) ∧ wr.heap[w.heap.size + 1]? = some (.cells #[.bool false, .int .i64 0, .int .i64 0] 40 (0, 0)) ∧ w.heap.size + 3 ≤ wr.heap.size) (fun kv _ => ys.length - (intOf kv).toNat)
  case atStart => exact ⟨0, _, Nat.zero_le _, rfl, hrel0, hB0, hT0, hV0, hS0⟩
  case round =>
    clear hrel0 hB0 hT0 hV0 hS0
    obtain ⟨k, lv, hk, rfl, HR, hbw, hTw, hVw, hSw⟩ := hrel
    by_cases hlt : k < ys.length
    · have hltx : k < xs.length := by rw [← hlen.out]; exact hlt
      obtain ⟨vals, nl, q, hA, hre, hnu, hit, hown, hqk⟩ := HR.out
      clear HR
      obtain ⟨⟨lt, hI⟩, hvl⟩ := hA.item (fl := fl) HL.out HPL.out hltx
      have HNX : Hid _ := hA.next HL.out HPL.out HF.out hltx
      have HML : Hid _ := meanL_at (fl := fl) (L := L) hltx vals q
      have HTX : Hid _ := take_snoc hltx noItm
      have hgl : (letVals (xs.take k) vals).length ≤ k := by
        rw [letVals_len _ _ (by simp; omega)]; exact Nat.le_trans (giv_len _) (by simp; omega)
      have HSN : Hid (∀ x t, letVals (xs.take k ++ [x]) (vals ++ [t]) = if x.name = [] then letVals (xs.take k) vals else letVals (xs.take k) vals ++ [t]) := fun x t => letVals_snoc _ _ _ _ (by simp; omega)
      rw [drop_head hltx noItm, drop_head hlt (zTok, zTok, 0, 0)] at hnu hit
      obtain ⟨g, rfl, ⟨gcs, hgc⟩, hcells⟩ := HC.out k hlt
      obtain ⟨⟨lo, hTF⟩, hwf, hty, hev, hlets, hlln⟩ := hI
      generalize xs.getD k noItm = x at *
      generalize ys.getD k (zTok, zTok, 0, 0) = y at *
      obtain ⟨⟨hCd, hO⟩, hit2⟩ := hit
      obtain ⟨t0, u0, b, wh⟩ := y
      simp only [] at hCd hO
      unfold Numb at hnu
      simp only [] at hnu
      have hct : ∀ j, j < 10 → wr.cell? ⟨g, k * 10 + j, none⟩ = (icell (t0, u0, b, wh))[j]? := fun j hj => by
        rw [hbw.cell (p := ⟨g, k * 10 + j, none⟩) (lt_of_get hgc)]; exact hcells j hj
      have c0 : wr.cell? ⟨g, k * 10, none⟩ = some (.int .i64 (kindOf t0)) := hct 0 (by omega)
      have c1 : wr.cell? ⟨g, k * 10 + 1, none⟩ = some (.int .i64 t0.pl) := hct 1 (by omega)
      have c2 : wr.cell? ⟨g, k * 10 + 2, none⟩ = some (.int .i64 (nmOf t0)) := hct 2 (by omega)
      have c3 : wr.cell? ⟨g, k * 10 + 3, none⟩ = some (S (ownOf t0)) := hct 3 (by omega)
      have c4 : wr.cell? ⟨g, k * 10 + 4, none⟩ = some (.int .i64 (kindOf u0)) := hct 4 (by omega)
      have c5 : wr.cell? ⟨g, k * 10 + 5, none⟩ = some (.int .i64 u0.pl) := hct 5 (by omega)
      have c6 : wr.cell? ⟨g, k * 10 + 6, none⟩ = some (.int .i64 (nmOf u0)) := hct 6 (by omega)
      have c7 : wr.cell? ⟨g, k * 10 + 7, none⟩ = some (S (ownOf u0)) := hct 7 (by omega)
      have c8 : wr.cell? ⟨g, k * 10 + 8, none⟩ = some (.int .i64 wh) := hct 8 (by omega)
      have c9 : wr.cell? ⟨g, k * 10 + 9, none⟩ = some (.pointer (some ⟨b, 0, none⟩)) := hct 9 (by omega)
      have hb1 : Below wr.heap.size wr (wr.alloc (itObjW t0 u0 wh (.pointer (some ⟨b, 0, none⟩)))) := (Below.refl _ _).alloc (Nat.le_refl _) _
      have hB1 : Below w.heap.size w (wr.alloc (itObjW t0 u0 wh (.pointer (some ⟨b, 0, none⟩)))) := hbw.trans (hb1.mono hbw.size)
      have hz1' : (wr.alloc (itObjW t0 u0 wh (.pointer (some ⟨b, 0, none⟩)))).heap[wr.heap.size]? = some (itObjW t0 u0 wh (.pointer (some ⟨b, 0, none⟩))) := heap_alloc_new wr _
      obtain ⟨al, capl, rfl, hIn⟩ := val_row hown
      have hTl : TelAt (wr.alloc (itObjW t0 u0 wh (.pointer (some ⟨b, 0, none⟩)))) (w.heap.size + 1 + 1) fl (.slice al (letVals (xs.take k) vals).length capl) := tel_at (by rw [HTO.out, hb1.block _ (lt_of_get hTw)]; exact hTw)
      have W1 := ptell_any hlets HF2.out hlln (by omega) (hCd.tr _ hTF |>.below hB1) hwf hty hTl (hIn.below hb1)
      rw [hev] at W1
      have hown1 := ownsRow_below hown hb1
      have hTw1 := (hb1.block _ (lt_of_get hTw)).trans hTw
      have hVw1 := (hb1.block _ (lt_of_get hVw)).trans hVw
      generalize tellF xs vals fl L (x.top + 1) x.top = tv at *
      unfold itObjW at hb1 hB1 hz1' W1 hown1 hTw1 hVw1
      have HIT3 : Hid _ := hit2
      have HNU : Hid _ := hnu
      have HO : Hid (ItOf x t0 u0) := hO
      have HRE : Hid _ := hre
      clear hct hcells hit2 hCd hTF hwf hty hev hlets hlln hnu hgc hTl hIn hown hO hre hA hTw hVw hbw
      generalize hkd : kindOf t0 = kd at *
      generalize t0.pl = q1 at *
      generalize nmOf t0 = q2 at *
      generalize ownOf t0 = q3 at *
      generalize kindOf u0 = q4 at *
      generalize u0.pl = q5 at *
      generalize nmOf u0 = q6 at *
      generalize ownOf u0 = q7 at *
      have HKD : Hid _ := hkd
      clear hkd
      rcases itOf_let HO.out with ⟨hn, hk11⟩ | ⟨hn, hk11⟩
      · rw [HKD.out] at hk11
        subst hk11
        have HNN : Hid _ := hn
        have HRE2 : Hid (r = (meanL xs fl L (xs.drop (k + 1)) (vals ++ [tv]) q).getD (false, 0)) := by show _ = _; rw [HRE.out, HML.out, if_neg hn]
        have HNU2 : Hid (Numb (nl + 1) q (xs.drop (k + 1)) (ys.drop (k + 1))) := by
          rcases HNU.out with h | h
          · exact h.2.2
          · exact absurd h.1 hn
        have HLV : Hid (letVals (xs.take (k + 1)) (vals ++ [tv]) = letVals (xs.take k) vals ++ [tv]) := by show _ = _; rw [HTX.out, HSN.out, if_neg hn]
        clear hn HRE HML HNU HSN HTX
        go_wp2_with fail
        refine W1.mono ?_
        rintro e w1 ⟨rfl, hb2⟩
        clear W1 c0 c1 c2 c3 c4 c5 c6 c7 c8 c9
        have hB2 := hB1.trans (hb2.mono hB1.size)
        have hz2' := (hb2.block _ (lt_of_get hz1')).trans hz1'
        have hT2 := (hb2.block _ (lt_of_get hTw1)).trans hTw1
        have hV2 := (hb2.block _ (lt_of_get hVw1)).trans hVw1
        have hown2 := ownsRow_below hown1 hb2
        have hs2 : w.heap.size + 3 ≤ w1.heap.size := Nat.le_trans hSw (Nat.le_trans hb1.size hb2.size)
        obtain ⟨⟨z0, z1, z2, z3, z4, z5, z6, z7, z8, z9⟩, zf⟩ := it_cells hz2'
        have t9 : w1.cell? ⟨w.heap.size + 1 + 1, 9, none⟩ = _ := cell_of_row w1 _ 9 _ _ _ hT2
        simp only [List.getElem?_toArray, List.getElem?_cons_zero, List.getElem?_cons_succ] at t9
        have tfz : ∀ j, w1.frozen? ⟨w.heap.size + 1 + 1, j, none⟩ = false := fun j => by simp [World.frozen?, hT2]
        have htb : w.heap.size + 1 + 1 < w1.heap.size := by omega
        have hne : some (w.heap.size + 1 + 1) ≠ (Value.slice al (letVals (xs.take k) vals).length capl).ownBlock := fun e => by
          have := (hown2.lt _ e.symm).1; omega
        have HB2 : Hid _ := hB2
        have HT2 : Hid _ := hT2
        have HV2 : Hid _ := hV2
        clear hb1 hB1 hz1' hown1 hTw1 hVw1 hb2 hz2' hB2 hT2 hV2
        generalize letVals (xs.take k) vals = lvs at *
        go_wp2_with (
          at_builtin
          go_must (refine wpList_append_lies _ (by rfl) _ _ 179 (by rfl) (w.heap.size + 3) 112 i0 (.int .i64 0) 1 8 Tryz.underlying179 hi hz0 hz1 hz2 (by rfl) (by decide) _ _ _ (by rfl) (hown2.alloc _) ⟨w1.heap.size, 0, none⟩ 1 1 [.int .i64 tv] (by rfl) (by rfl) (World.news_of_block (heap_alloc_new w1 _)) (fun x hx => by simp at hx; rcases hx with rfl; rfl) (by decide) (by unfold maxLen; omega) (by omega) (by simp; omega) _ rfl ?_)
          intro gg cap' w3 hown3 hgrow hat hlt3
          have e0 : w3.heap[w.heap.size + 1 + 1]? = w1.heap[w.heap.size + 1 + 1]? := (hgrow.block _ (by simp; omega) hne).trans (Below.heap_alloc w1 _ _ htb)
          have e1 := (World.cell?_of_block (a := ⟨w.heap.size + 1 + 1, 9, none⟩) e0).trans t9
          have e2 := (World.frozen?_of_block (a := ⟨w.heap.size + 1 + 1, 9, none⟩) e0).trans (tfz 9)
          have HE0 : Hid _ := e0
          have HO3 : Hid _ := hown3
          have HG3 : Hid _ := hgrow
          clear e0 hown3 hgrow)
        go_roundw
        case rel =>
          have hO3 : w3.ownsRow (w.heap.size + 3) 112 1 (.slice (some ⟨gg, 0, none⟩) (lvs.length + 1) cap') (lvs.length + 1) (intCells lvs ++ [.int .i64 tv]) := HO3.out
          have hgb : w.heap.size + 3 ≤ gg := (hO3.lt gg rfl).1
          have hT3 : w3.heap[w.heap.size + 1 + 1]? = _ := HE0.out.trans HT2.out
          have hV3 : w3.heap[w.heap.size + 1]? = _ := (HG3.out.block _ (by simp; omega) (fun e => by have := (hown2.lt _ e.symm).1; omega)).trans ((Below.heap_alloc w1 _ _ (by omega)).trans HV2.out)
          refine ⟨k + 1, .slice (some ⟨gg, 0, none⟩) (lvs.length + 1) cap', by omega, by simp, ⟨vals ++ [tv], nl + 1, q, HNX.out, HRE2.out, HNU2.out, HIT3.out, ?_, by omega⟩, ?_, ?_, ?_, ?_⟩
          · rw [HLV.out]
            have h1 := ownsRow_setCell_other hO3 (a := ⟨w.heap.size + 1 + 1, 9, none⟩) (by simp [Value.ownBlock]; omega) (.slice (some ⟨gg, 0, none⟩) (lvs.length + 1) cap')
            simpa [intCells] using h1
          · exact (below_far3 HB2.out hown2 HG3.out (by omega)).setCell (by simp; omega) _
          · rw [heap_setCell_same w3 _ 9 _ _ _ hT3]; rfl
          · rw [Below.heap_setCell _ _ _ _ (by simp)]; exact hV3
          · have := HG3.out.size; simp at this ⊢; omega
        case measure => simp [intOf]; omega
      · rw [HKD.out] at hk11
        have hkd2 : ((kd : Int) == (11 : Int)) = false := by
          have : ¬ ((kd : Int) = 11) := by omega
          simpa using this
        have hwh : wh = ((q + 1 : Nat) : Int) ∧ Numb nl (q + 1) (xs.drop (k + 1)) (ys.drop (k + 1)) := by
          rcases HNU.out with h | h
          · exact absurd hn h.1
          · exact h.2
        have HNU2 : Hid _ := hwh.2
        have HWH : Hid _ := hwh.1
        have hal : kd = if x.allow then 12 else 13 := by
          rcases HO.out with h | h
          · exact absurd hn h.1
          · rw [← HKD.out]; exact h.2.1
        have hal2 : ((kd : Int) == (12 : Int)) = x.allow := by
          rw [hal]; cases x.allow <;> rfl
        have HLV : Hid (letVals (xs.take (k + 1)) (vals ++ [tv]) = letVals (xs.take k) vals) := by show _ = _; rw [HTX.out, HSN.out, if_pos hn]
        by_cases htv : tv = 1
        · subst htv
          have HE : Hid (r = (x.allow, q + 1)) := by show _ = _; rw [HRE.out, HML.out, if_pos hn, if_pos rfl]; rfl
          clear hn hal HRE HML HNU HSN HTX hwh HNU2 HLV
          go_wp2_with fail
          refine W1.mono ?_
          rintro e w1 ⟨rfl, hb2⟩
          clear W1 c0 c1 c2 c3 c4 c5 c6 c7 c8 c9
          have HB2 : Hid _ := hB1.trans (hb2.mono hB1.size)
          have hz2' := (hb2.block _ (lt_of_get hz1')).trans hz1'
          obtain ⟨⟨z0, z1, z2, z3, z4, z5, z6, z7, z8, z9⟩, zf⟩ := it_cells hz2'
          obtain ⟨⟨v0, v1, v2⟩, vf⟩ := ver_cells ((hb2.block _ (lt_of_get hVw1)).trans hVw1)
          have nz : wr.heap.size ≠ w.heap.size + 1 := by omega
          have nz' := nz.symm
          clear hb1 hB1 hz1' hown1 hTw1 hVw1 hb2 hz2'
          generalize x.allow = xa at *
          go_wp2_with fail
          refine bodyPost_ret (v := .agg #[.bool xa, .int .i64 wh, .int .i64 0]) (by simp [results, Tryz.results39, go_sem, v0, v1, v2, vf]) rfl ?_
          exact ⟨by rw [HE.out, HWH.out]; rfl, ((HB2.out.setCell (by simp) _).setCell (by simp) _).setCell (by simp) _⟩
        · have t1 : (tv == 1) = false := by simpa using htv
          have HRE2 : Hid (r = (meanL xs fl L (xs.drop (k + 1)) (vals ++ [tv]) (q + 1)).getD (false, 0)) := by show _ = _; rw [HRE.out, HML.out, if_pos hn, if_neg htv]
          clear hn hal HRE HML HNU HSN HTX hwh htv hal2
          go_wp2_with fail
          refine W1.mono ?_
          rintro e w1 ⟨rfl, hb2⟩
          clear W1 c0 c1 c2 c3 c4 c5 c6 c7 c8 c9
          have HB2 : Hid _ := hB1.trans (hb2.mono hB1.size)
          have hz2' := (hb2.block _ (lt_of_get hz1')).trans hz1'
          have HT2 : Hid _ := (hb2.block _ (lt_of_get hTw1)).trans hTw1
          have HV2 : Hid _ := (hb2.block _ (lt_of_get hVw1)).trans hVw1
          have hown2 := ownsRow_below hown1 hb2
          have hs2 : w.heap.size + 3 ≤ w1.heap.size := Nat.le_trans hSw (Nat.le_trans hb1.size hb2.size)
          obtain ⟨⟨z0, z1, z2, z3, z4, z5, z6, z7, z8, z9⟩, zf⟩ := it_cells hz2'
          clear hb1 hB1 hz1' hown1 hTw1 hVw1 hb2 hz2'
          go_wp2_with fail
          go_roundw
          case rel => exact ⟨k + 1, _, by omega, by simp, ⟨vals ++ [tv], nl, q + 1, HNX.out, HRE2.out, HNU2.out, HIT3.out, by rw [HLV.out]; exact hown2, by omega⟩, HB2.out, HT2.out, HV2.out, hs2⟩
          case measure => simp [intOf]; omega
    · have hke : k = ys.length := by omega
      subst hke
      obtain ⟨vals, nl, q, hA, hre, hnu, hit, hown, hqk⟩ := HR.out
      have HE : Hid (r = (false, 0)) := by
        show _ = _
        rw [hre, List.drop_of_length_le (by rw [hlen.out]; exact Nat.le_refl _)]; rfl
      obtain ⟨⟨v0, v1, v2⟩, vf⟩ := ver_cells hVw
      have HB : Hid _ := hbw
      clear hA hre hnu hit hown hbw hTw hVw HR
      go_wp2_with fail
      refine bodyPost_ret (v := .agg #[.bool false, .int .i64 0, .int .i64 0]) (by simp [results, Tryz.results39, go_sem, v0, v1, v2, vf]) rfl ?_
      exact ⟨by rw [HE.out]; rfl, ((HB.out.setCell (by simp) _).setCell (by simp) _).setCell (by simp) _⟩
end Go.Proofs.YtfkdailfcmnjlaaGreatDoor

namespace Go.Proofs.YtfkdailfcmnjlaaGreatDoor
open Go Go.RowKit
set_option maxRecDepth 100000
attribute [local go_sem ↓] Go.wp_at_zero Go.wp_at_succ

theorem below_cells {B b : Nat} {a : World} (hb : B ≤ b) : ∀ (vs : List Value) (o : Nat) {w : World}, Below B a w → Below B a (w.setCells b o vs)
  | [], _, _, h => h
  | v :: r, o, w, h => below_cells hb r (o + 1) (h.setCell (by simpa using hb) v)
theorem there_below {w w' : World} {b o n : Nat} (h : w.there b o n) (hb : Below w.heap.size w w') : w'.there b o n := fun j hj => by
  have h1 := h j hj
  have hl : b < w.heap.size := by
    obtain ⟨v, hv⟩ := Option.isSome_iff_exists.1 h1.1
    exact World.block_lt_of_cell? w _ hv
  have e := hb.block b hl
  exact ⟨by rw [World.cell?_of_block (w := w) (a := ⟨b, o + j, none⟩) e]; exact h1.1, by rw [World.frozen?_of_block (w := w) (a := ⟨b, o + j, none⟩) e]; exact h1.2⟩
theorem there_cells {w : World} {b : Nat} {cs : Array Value} {t : TypeId} (h : w.heap[b]? = some (.cells cs t (0, 0))) : w.there b 0 cs.size := fun j hj => by
  rw [Nat.zero_add]
  exact ⟨by rw [cell_of_row w b j _ _ _ h]; simp [hj], by simp [World.frozen?, h]⟩
set_option maxHeartbeats 8000000 in
theorem pfields_any {lv mv : Value} (e : Ev) (s : Stt) (w : World) (h1 : PairsAt lv s.levels w) (h2 : PairsAt mv s.members w) :
    Calls Tryz.prog 40 #[evV e, sttV lv mv s] w fun en w' => en = .returned (flV (fieldsL e s)) ∧ Below w.heap.size w w' := by
  unfold evV sttV
  obtain ⟨sn, tg, wa, nd, wh⟩ := e
  obtain ⟨ls, df, ms, op⟩ := s
  simp only [] at *
  have hol : lv.oneCell' = true := by obtain ⟨_, a, c, rfl, _⟩ := h1; rfl
  have hom : mv.oneCell' = true := by obtain ⟨_, a, c, rfl, _⟩ := h2; rfl
  have hB0 : Below w.heap.size w (((w.alloc (.cells #[S sn, S tg, .int .i64 wa, .int .i64 nd, .int .i64 wh] 46)).alloc (.cells #[lv, .int .i64 df, mv, .bool op] 50)).alloc (.cells #[.int .i64 0, .int .i64 0, .int .i64 0, .int .i64 0, .int .i64 0, .int .i64 0, .int .i64 0, .int .i64 0, .int .i64 0] 114)) := (((Below.refl _ _).alloc (Nat.le_refl _) _).alloc (by simp) _).alloc (by simp; omega) _
  have hX0 : (((w.alloc (.cells #[S sn, S tg, .int .i64 wa, .int .i64 nd, .int .i64 wh] 46)).alloc (.cells #[lv, .int .i64 df, mv, .bool op] 50)).alloc (.cells #[.int .i64 0, .int .i64 0, .int .i64 0, .int .i64 0, .int .i64 0, .int .i64 0, .int .i64 0, .int .i64 0, .int .i64 0] 114)).heap[w.heap.size]? = some (.cells #[S sn, S tg, .int .i64 wa, .int .i64 nd, .int .i64 wh] 46 (0, 0)) := by rw [Below.heap_alloc _ _ _ (by simp; omega), Below.heap_alloc _ _ _ (by simp)]; exact heap_alloc_new w _
  have hP0 : (((w.alloc (.cells #[S sn, S tg, .int .i64 wa, .int .i64 nd, .int .i64 wh] 46)).alloc (.cells #[lv, .int .i64 df, mv, .bool op] 50)).alloc (.cells #[.int .i64 0, .int .i64 0, .int .i64 0, .int .i64 0, .int .i64 0, .int .i64 0, .int .i64 0, .int .i64 0, .int .i64 0] 114)).heap[w.heap.size + 1]? = some (.cells #[lv, .int .i64 df, mv, .bool op] 50 (0, 0)) := by
    rw [Below.heap_alloc _ _ _ (by simp)]
    have e := heap_alloc_new (w.alloc (.cells #[S sn, S tg, .int .i64 wa, .int .i64 nd, .int .i64 wh] 46)) (.cells #[lv, .int .i64 df, mv, .bool op] 50); rw [World.size_alloc] at e; exact e
  have hR0 : (((w.alloc (.cells #[S sn, S tg, .int .i64 wa, .int .i64 nd, .int .i64 wh] 46)).alloc (.cells #[lv, .int .i64 df, mv, .bool op] 50)).alloc (.cells #[.int .i64 0, .int .i64 0, .int .i64 0, .int .i64 0, .int .i64 0, .int .i64 0, .int .i64 0, .int .i64 0, .int .i64 0] 114)).heap[w.heap.size + 1 + 1]? = some (.cells #[.int .i64 0, .int .i64 0, .int .i64 0, .int .i64 0, .int .i64 0, .int .i64 0, .int .i64 0, .int .i64 0, .int .i64 0] 114 (0, 0)) := by
    have e := heap_alloc_new ((w.alloc (.cells #[S sn, S tg, .int .i64 wa, .int .i64 nd, .int .i64 wh] 46)).alloc (.cells #[lv, .int .i64 df, mv, .bool op] 50)) (.cells #[.int .i64 0, .int .i64 0, .int .i64 0, .int .i64 0, .int .i64 0, .int .i64 0, .int .i64 0, .int .i64 0, .int .i64 0] 114); rw [World.size_alloc, World.size_alloc] at e; exact e
  have H0 : Hid _ := And.intro hB0 (And.intro hX0 (And.intro hP0 hR0))
  have WL : ∀ (u : List UInt8) (W : World), Below w.heap.size w W → Calls Tryz.prog 79 #[.agg #[lv, .int .i64 df, mv, .bool op], S u] W fun e w' => e = .returned (.int .i64 (firstI df ls u)) ∧ Below W.heap.size W w' := fun u W hb => plevel_any u W (h1.below hb)
  have WI : ∀ (u : List UInt8) (W : World), Below w.heap.size w W → Calls Tryz.prog 80 #[.agg #[lv, .int .i64 df, mv, .bool op], S u] W fun e w' => e = .returned (.int .i64 (firstK ms u)) ∧ Below W.heap.size W w' := fun u W hb => pstanding_any u W (h2.below hb)
  have WK := fun W => pmember_any wa W
  have WT := fun b W => ptruth_any b W
  have KP : Hid (∀ W W', (Below w.heap.size w W ∧ W.cell? ⟨w.heap.size, 0, none⟩ = some (S sn) ∧ W.cell? ⟨w.heap.size, 1, none⟩ = some (S tg) ∧ W.cell? ⟨w.heap.size, 2, none⟩ = some (.int .i64 wa) ∧ W.cell? ⟨w.heap.size, 3, none⟩ = some (.int .i64 nd) ∧ W.cell? ⟨w.heap.size, 4, none⟩ = some (.int .i64 wh) ∧ W.cell? ⟨w.heap.size + 1, 0, none⟩ = some (lv) ∧ W.cell? ⟨w.heap.size + 1, 1, none⟩ = some (.int .i64 df) ∧ W.cell? ⟨w.heap.size + 1, 2, none⟩ = some (mv) ∧ W.cell? ⟨w.heap.size + 1, 3, none⟩ = some (.bool op) ∧ W.there (w.heap.size + 1 + 1) 0 9) → Below W.heap.size W W' → (Below w.heap.size w W' ∧ W'.cell? ⟨w.heap.size, 0, none⟩ = some (S sn) ∧ W'.cell? ⟨w.heap.size, 1, none⟩ = some (S tg) ∧ W'.cell? ⟨w.heap.size, 2, none⟩ = some (.int .i64 wa) ∧ W'.cell? ⟨w.heap.size, 3, none⟩ = some (.int .i64 nd) ∧ W'.cell? ⟨w.heap.size, 4, none⟩ = some (.int .i64 wh) ∧ W'.cell? ⟨w.heap.size + 1, 0, none⟩ = some (lv) ∧ W'.cell? ⟨w.heap.size + 1, 1, none⟩ = some (.int .i64 df) ∧ W'.cell? ⟨w.heap.size + 1, 2, none⟩ = some (mv) ∧ W'.cell? ⟨w.heap.size + 1, 3, none⟩ = some (.bool op) ∧ W'.there (w.heap.size + 1 + 1) 0 9)) := fun W W' hS hb => by
    obtain ⟨hb0, a0, a1, a2, a3, a4, a5, a6, a7, a8, tt⟩ := hS
    refine ⟨hb0.trans (hb.mono hb0.size), ?_, ?_, ?_, ?_, ?_, ?_, ?_, ?_, ?_, ?_⟩
    all_goals first
      | (rw [hb.cell (World.block_lt_of_cell? W _ (by assumption))]; assumption)
      | exact there_below tt hb
  have KD : Hid (∀ W : World, (Below w.heap.size w W ∧ W.cell? ⟨w.heap.size, 0, none⟩ = some (S sn) ∧ W.cell? ⟨w.heap.size, 1, none⟩ = some (S tg) ∧ W.cell? ⟨w.heap.size, 2, none⟩ = some (.int .i64 wa) ∧ W.cell? ⟨w.heap.size, 3, none⟩ = some (.int .i64 nd) ∧ W.cell? ⟨w.heap.size, 4, none⟩ = some (.int .i64 wh) ∧ W.cell? ⟨w.heap.size + 1, 0, none⟩ = some (lv) ∧ W.cell? ⟨w.heap.size + 1, 1, none⟩ = some (.int .i64 df) ∧ W.cell? ⟨w.heap.size + 1, 2, none⟩ = some (mv) ∧ W.cell? ⟨w.heap.size + 1, 3, none⟩ = some (.bool op) ∧ W.there (w.heap.size + 1 + 1) 0 9) → (Below w.heap.size w W.drew ∧ W.drew.cell? ⟨w.heap.size, 0, none⟩ = some (S sn) ∧ W.drew.cell? ⟨w.heap.size, 1, none⟩ = some (S tg) ∧ W.drew.cell? ⟨w.heap.size, 2, none⟩ = some (.int .i64 wa) ∧ W.drew.cell? ⟨w.heap.size, 3, none⟩ = some (.int .i64 nd) ∧ W.drew.cell? ⟨w.heap.size, 4, none⟩ = some (.int .i64 wh) ∧ W.drew.cell? ⟨w.heap.size + 1, 0, none⟩ = some (lv) ∧ W.drew.cell? ⟨w.heap.size + 1, 1, none⟩ = some (.int .i64 df) ∧ W.drew.cell? ⟨w.heap.size + 1, 2, none⟩ = some (mv) ∧ W.drew.cell? ⟨w.heap.size + 1, 3, none⟩ = some (.bool op) ∧ W.drew.there (w.heap.size + 1 + 1) 0 9)) := fun W hS => by
    obtain ⟨hb0, a0, a1, a2, a3, a4, a5, a6, a7, a8, tt⟩ := hS
    exact ⟨hb0.drew, a0, a1, a2, a3, a4, a5, a6, a7, a8, tt⟩
  have KS : Hid (∀ W vs, (Below w.heap.size w W ∧ W.cell? ⟨w.heap.size, 0, none⟩ = some (S sn) ∧ W.cell? ⟨w.heap.size, 1, none⟩ = some (S tg) ∧ W.cell? ⟨w.heap.size, 2, none⟩ = some (.int .i64 wa) ∧ W.cell? ⟨w.heap.size, 3, none⟩ = some (.int .i64 nd) ∧ W.cell? ⟨w.heap.size, 4, none⟩ = some (.int .i64 wh) ∧ W.cell? ⟨w.heap.size + 1, 0, none⟩ = some (lv) ∧ W.cell? ⟨w.heap.size + 1, 1, none⟩ = some (.int .i64 df) ∧ W.cell? ⟨w.heap.size + 1, 2, none⟩ = some (mv) ∧ W.cell? ⟨w.heap.size + 1, 3, none⟩ = some (.bool op) ∧ W.there (w.heap.size + 1 + 1) 0 9) → (Below w.heap.size w (W.setCells (w.heap.size + 1 + 1) 0 vs) ∧ (W.setCells (w.heap.size + 1 + 1) 0 vs).cell? ⟨w.heap.size, 0, none⟩ = some (S sn) ∧ (W.setCells (w.heap.size + 1 + 1) 0 vs).cell? ⟨w.heap.size, 1, none⟩ = some (S tg) ∧ (W.setCells (w.heap.size + 1 + 1) 0 vs).cell? ⟨w.heap.size, 2, none⟩ = some (.int .i64 wa) ∧ (W.setCells (w.heap.size + 1 + 1) 0 vs).cell? ⟨w.heap.size, 3, none⟩ = some (.int .i64 nd) ∧ (W.setCells (w.heap.size + 1 + 1) 0 vs).cell? ⟨w.heap.size, 4, none⟩ = some (.int .i64 wh) ∧ (W.setCells (w.heap.size + 1 + 1) 0 vs).cell? ⟨w.heap.size + 1, 0, none⟩ = some (lv) ∧ (W.setCells (w.heap.size + 1 + 1) 0 vs).cell? ⟨w.heap.size + 1, 1, none⟩ = some (.int .i64 df) ∧ (W.setCells (w.heap.size + 1 + 1) 0 vs).cell? ⟨w.heap.size + 1, 2, none⟩ = some (mv) ∧ (W.setCells (w.heap.size + 1 + 1) 0 vs).cell? ⟨w.heap.size + 1, 3, none⟩ = some (.bool op) ∧ (W.setCells (w.heap.size + 1 + 1) 0 vs).there (w.heap.size + 1 + 1) 0 9)) := fun W vs hS => by
    obtain ⟨hb0, a0, a1, a2, a3, a4, a5, a6, a7, a8, tt⟩ := hS
    refine ⟨below_cells (by omega) _ _ hb0, ?_, ?_, ?_, ?_, ?_, ?_, ?_, ?_, ?_, ?_⟩
    all_goals first
      | (rw [World.cell?_setCells_out _ _ _ _ _ (fun h => by exfalso; dsimp only at h; omega)]; assumption)
      | exact World.there_setCells tt _ _ _
  have HF : Hid (fieldsL ⟨sn, tg, wa, nd, wh⟩ ⟨ls, df, ms, op⟩ = [firstI df ls sn, firstI df ls tg, nd, wh, firstK ms sn, firstK ms tg, knownI wa, truthI (sn == tg), truthI op]) := rfl
  clear hB0 hX0 hP0 hR0 h1 h2
  go_enter Tryz.func40, Tryz.ntmps40
  go_wp2_with fail
  obtain ⟨hB0, hX0, hP0, hR0⟩ := H0.out
  clear H0
  generalize (((w.alloc (.cells #[S sn, S tg, .int .i64 wa, .int .i64 nd, .int .i64 wh] 46)).alloc (.cells #[lv, .int .i64 df, mv, .bool op] 50)).alloc (.cells #[.int .i64 0, .int .i64 0, .int .i64 0, .int .i64 0, .int .i64 0, .int .i64 0, .int .i64 0, .int .i64 0, .int .i64 0] 114)) = wz at *
  have hS0 : (Below w.heap.size w wz ∧ wz.cell? ⟨w.heap.size, 0, none⟩ = some (S sn) ∧ wz.cell? ⟨w.heap.size, 1, none⟩ = some (S tg) ∧ wz.cell? ⟨w.heap.size, 2, none⟩ = some (.int .i64 wa) ∧ wz.cell? ⟨w.heap.size, 3, none⟩ = some (.int .i64 nd) ∧ wz.cell? ⟨w.heap.size, 4, none⟩ = some (.int .i64 wh) ∧ wz.cell? ⟨w.heap.size + 1, 0, none⟩ = some (lv) ∧ wz.cell? ⟨w.heap.size + 1, 1, none⟩ = some (.int .i64 df) ∧ wz.cell? ⟨w.heap.size + 1, 2, none⟩ = some (mv) ∧ wz.cell? ⟨w.heap.size + 1, 3, none⟩ = some (.bool op) ∧ wz.there (w.heap.size + 1 + 1) 0 9) := by
    refine ⟨hB0, ?_, ?_, ?_, ?_, ?_, ?_, ?_, ?_, ?_, ?_⟩
    all_goals first | (rw [cell_of_row wz w.heap.size _ _ _ _ hX0]; rfl) | (rw [cell_of_row wz (w.heap.size + 1) _ _ _ _ hP0]; rfl) | exact there_cells hR0
  have hlen9 : [Value.int .i64 (firstI df ls sn), Value.int .i64 (firstI df ls tg), Value.int .i64 nd, Value.int .i64 wh, Value.int .i64 (firstK ms sn), Value.int .i64 (firstK ms tg), Value.int .i64 (knownI wa), Value.int .i64 (truthI (sn == tg)), Value.int .i64 (truthI op)].length = 9 := rfl
  have hone9 : ∀ v ∈ [Value.int .i64 (firstI df ls sn), Value.int .i64 (firstI df ls tg), Value.int .i64 nd, Value.int .i64 wh, Value.int .i64 (firstK ms sn), Value.int .i64 (firstK ms tg), Value.int .i64 (knownI wa), Value.int .i64 (truthI (sn == tg)), Value.int .i64 (truthI op)], v.oneCell' = true := by
    intro v hv
    simp only [List.mem_cons, List.not_mem_nil, or_false] at hv
    rcases hv with rfl | rfl | rfl | rfl | rfl | rfl | rfl | rfl | rfl <;> rfl
  have hsz9 : Option.map (fun x => x.size) (Tryz.prog.info? 114) = some 9 := by kernel_rfl
  clear hB0 hX0 hP0 hR0
  go_region_held3 (fun w' => (Below w.heap.size w w' ∧ w'.cell? ⟨w.heap.size, 0, none⟩ = some (S sn) ∧ w'.cell? ⟨w.heap.size, 1, none⟩ = some (S tg) ∧ w'.cell? ⟨w.heap.size, 2, none⟩ = some (.int .i64 wa) ∧ w'.cell? ⟨w.heap.size, 3, none⟩ = some (.int .i64 nd) ∧ w'.cell? ⟨w.heap.size, 4, none⟩ = some (.int .i64 wh) ∧ w'.cell? ⟨w.heap.size + 1, 0, none⟩ = some (lv) ∧ w'.cell? ⟨w.heap.size + 1, 1, none⟩ = some (.int .i64 df) ∧ w'.cell? ⟨w.heap.size + 1, 2, none⟩ = some (mv) ∧ w'.cell? ⟨w.heap.size + 1, 3, none⟩ = some (.bool op) ∧ w'.there (w.heap.size + 1 + 1) 0 9)) (first | with_reducible exact KD.out _ (by assumption) | with_reducible exact KP.out _ _ (by assumption) (by assumption) | with_reducible exact KS.out _ _ (by assumption) | with_reducible assumption | go_keep)
    (first
      | (go_at_call 79; refine (WL _ _ (by exact And.left (by assumption))).mono ?_; rintro e w1 ⟨rfl, hb1⟩)
      | (go_at_call 80; refine (WI _ _ (by exact And.left (by assumption))).mono ?_; rintro e w1 ⟨rfl, hb1⟩)
      | (go_at_call 81; refine (WK _).mono ?_; rintro e w1 ⟨rfl, rfl⟩)
      | (go_at_call 82; refine (WT _ _).mono ?_; rintro e w1 ⟨rfl, rfl⟩))
  rename_i W1 B1 W2 B2 W3 B3 hHeld
  have ht0 : wz.drew.there (w.heap.size + 1 + 1) 0 9 := fun j hj => hS0.2.2.2.2.2.2.2.2.2.2 j hj
  have ht : w1.there (w.heap.size + 1 + 1) 0 9 := there_below (there_below (there_below (there_below ht0 B1) B2) B3) hb1
  clear ht0 B1 B2 B3 hb1
  have hin := World.cell?_setCells_in (w.heap.size + 1 + 1) [Value.int .i64 (firstI df ls sn), Value.int .i64 (firstI df ls tg), Value.int .i64 nd, Value.int .i64 wh, Value.int .i64 (firstK ms sn), Value.int .i64 (firstK ms tg), Value.int .i64 (knownI wa), Value.int .i64 (truthI (sn == tg)), Value.int .i64 (truthI op)] 0 w1 (fun j hj => by
    exact (ht j (by rw [hlen9] at hj; exact hj)).1)
  have hfz : ∀ j, j < 9 → (w1.setCells (w.heap.size + 1 + 1) 0 [Value.int .i64 (firstI df ls sn), Value.int .i64 (firstI df ls tg), Value.int .i64 nd, Value.int .i64 wh, Value.int .i64 (firstK ms sn), Value.int .i64 (firstK ms tg), Value.int .i64 (knownI wa), Value.int .i64 (truthI (sn == tg)), Value.int .i64 (truthI op)]).frozen? ⟨w.heap.size + 1 + 1, j, none⟩ = false := fun j hj => by
    have := hHeld.2.2.2.2.2.2.2.2.2.2 j hj
    rw [Nat.zero_add] at this; exact this.2
  have hBl := hHeld.1
  have r0 : (w1.setCells (w.heap.size + 1 + 1) 0 [Value.int .i64 (firstI df ls sn), Value.int .i64 (firstI df ls tg), Value.int .i64 nd, Value.int .i64 wh, Value.int .i64 (firstK ms sn), Value.int .i64 (firstK ms tg), Value.int .i64 (knownI wa), Value.int .i64 (truthI (sn == tg)), Value.int .i64 (truthI op)]).cell? ⟨w.heap.size + 1 + 1, 0, none⟩ = some (.int .i64 (firstI df ls sn)) := hin 0 (by simp)
  have r1 : (w1.setCells (w.heap.size + 1 + 1) 0 [Value.int .i64 (firstI df ls sn), Value.int .i64 (firstI df ls tg), Value.int .i64 nd, Value.int .i64 wh, Value.int .i64 (firstK ms sn), Value.int .i64 (firstK ms tg), Value.int .i64 (knownI wa), Value.int .i64 (truthI (sn == tg)), Value.int .i64 (truthI op)]).cell? ⟨w.heap.size + 1 + 1, 1, none⟩ = some (.int .i64 (firstI df ls tg)) := hin 1 (by simp)
  have r2 : (w1.setCells (w.heap.size + 1 + 1) 0 [Value.int .i64 (firstI df ls sn), Value.int .i64 (firstI df ls tg), Value.int .i64 nd, Value.int .i64 wh, Value.int .i64 (firstK ms sn), Value.int .i64 (firstK ms tg), Value.int .i64 (knownI wa), Value.int .i64 (truthI (sn == tg)), Value.int .i64 (truthI op)]).cell? ⟨w.heap.size + 1 + 1, 2, none⟩ = some (.int .i64 (nd)) := hin 2 (by simp)
  have r3 : (w1.setCells (w.heap.size + 1 + 1) 0 [Value.int .i64 (firstI df ls sn), Value.int .i64 (firstI df ls tg), Value.int .i64 nd, Value.int .i64 wh, Value.int .i64 (firstK ms sn), Value.int .i64 (firstK ms tg), Value.int .i64 (knownI wa), Value.int .i64 (truthI (sn == tg)), Value.int .i64 (truthI op)]).cell? ⟨w.heap.size + 1 + 1, 3, none⟩ = some (.int .i64 (wh)) := hin 3 (by simp)
  have r4 : (w1.setCells (w.heap.size + 1 + 1) 0 [Value.int .i64 (firstI df ls sn), Value.int .i64 (firstI df ls tg), Value.int .i64 nd, Value.int .i64 wh, Value.int .i64 (firstK ms sn), Value.int .i64 (firstK ms tg), Value.int .i64 (knownI wa), Value.int .i64 (truthI (sn == tg)), Value.int .i64 (truthI op)]).cell? ⟨w.heap.size + 1 + 1, 4, none⟩ = some (.int .i64 (firstK ms sn)) := hin 4 (by simp)
  have r5 : (w1.setCells (w.heap.size + 1 + 1) 0 [Value.int .i64 (firstI df ls sn), Value.int .i64 (firstI df ls tg), Value.int .i64 nd, Value.int .i64 wh, Value.int .i64 (firstK ms sn), Value.int .i64 (firstK ms tg), Value.int .i64 (knownI wa), Value.int .i64 (truthI (sn == tg)), Value.int .i64 (truthI op)]).cell? ⟨w.heap.size + 1 + 1, 5, none⟩ = some (.int .i64 (firstK ms tg)) := hin 5 (by simp)
  have r6 : (w1.setCells (w.heap.size + 1 + 1) 0 [Value.int .i64 (firstI df ls sn), Value.int .i64 (firstI df ls tg), Value.int .i64 nd, Value.int .i64 wh, Value.int .i64 (firstK ms sn), Value.int .i64 (firstK ms tg), Value.int .i64 (knownI wa), Value.int .i64 (truthI (sn == tg)), Value.int .i64 (truthI op)]).cell? ⟨w.heap.size + 1 + 1, 6, none⟩ = some (.int .i64 (knownI wa)) := hin 6 (by simp)
  have r7 : (w1.setCells (w.heap.size + 1 + 1) 0 [Value.int .i64 (firstI df ls sn), Value.int .i64 (firstI df ls tg), Value.int .i64 nd, Value.int .i64 wh, Value.int .i64 (firstK ms sn), Value.int .i64 (firstK ms tg), Value.int .i64 (knownI wa), Value.int .i64 (truthI (sn == tg)), Value.int .i64 (truthI op)]).cell? ⟨w.heap.size + 1 + 1, 7, none⟩ = some (.int .i64 (truthI (sn == tg))) := hin 7 (by simp)
  have r8 : (w1.setCells (w.heap.size + 1 + 1) 0 [Value.int .i64 (firstI df ls sn), Value.int .i64 (firstI df ls tg), Value.int .i64 nd, Value.int .i64 wh, Value.int .i64 (firstK ms sn), Value.int .i64 (firstK ms tg), Value.int .i64 (knownI wa), Value.int .i64 (truthI (sn == tg)), Value.int .i64 (truthI op)]).cell? ⟨w.heap.size + 1 + 1, 8, none⟩ = some (.int .i64 (truthI op)) := hin 8 (by simp)
  have HN : Hid _ := And.intro hBl hfz
  clear hin ht hBl hfz KP KD KS WL WI WK WT hS0 hlen9 hone9 hsz9
  generalize (w1.setCells (w.heap.size + 1 + 1) 0 [Value.int .i64 (firstI df ls sn), Value.int .i64 (firstI df ls tg), Value.int .i64 nd, Value.int .i64 wh, Value.int .i64 (firstK ms sn), Value.int .i64 (firstK ms tg), Value.int .i64 (knownI wa), Value.int .i64 (truthI (sn == tg)), Value.int .i64 (truthI op)]) = wf at r0 r1 r2 r3 r4 r5 r6 r7 r8 HN ⊢
  generalize firstI df ls sn = y0 at r0 HF ⊢
  generalize firstI df ls tg = y1 at r1 HF ⊢
  generalize firstK ms sn = y4 at r4 HF ⊢
  generalize firstK ms tg = y5 at r5 HF ⊢
  generalize knownI wa = y6 at r6 HF ⊢
  generalize truthI (sn == tg) = y7 at r7 HF ⊢
  generalize truthI op = y8 at r8 HF ⊢
  go_wp2_with fail
  refine bodyPost_ret (v := .agg #[.int .i64 y0, .int .i64 y1, .int .i64 nd, .int .i64 wh, .int .i64 y4, .int .i64 y5, .int .i64 y6, .int .i64 y7, .int .i64 y8]) (by simp [results, Tryz.results40, go_sem, r0, r1, r2, r3, r4, r5, r6, r7, r8]) rfl ?_
  exact ⟨by rw [HF.out]; rfl, HN.out.1⟩
end Go.Proofs.YtfkdailfcmnjlaaGreatDoor
