/-
  The program's reader: an item reads as the plain reader does. The program's reader: all items. The program's types: words, and what stands over types. The program's types: what stands over types. The program's reader: each item is told which of its kind it is. The program's reader: all items. Trees in the program's memory, with any notes of lets; how many parts they have.
-/
import Derived.Test.YtfkdailfcmnjlaaGreatDoorCompiles01
import Derived.Test.YtfkdailfcmnjlaaGreatDoorCompiles02
import Derived.Test.YtfkdailfcmnjlaaGreatDoorCompiles04
import Derived.Test.YtfkdailfcmnjlaaGreatDoorCompiles05
import Derived.Test.YtfkdailfcmnjlaaGreatDoorCompiles06
import Derived.Test.YtfkdailfcmnjlaaGreatDoorCompiles07
import Derived.Test.YtfkdailfcmnjlaaGreatDoorCompiles08
import Derived.Test.YtfkdailfcmnjlaaGreatDoorCompiles16
import Derived.Test.YtfkdailfcmnjlaaGreatDoorCompiles17
import Derived.Test.YtfkdailfcmnjlaaGreatDoorCompiles18
import Derived.Test.YtfkdailfcmnjlaaGreatDoorCompiles19
import Derived.Test.YtfkdailfcmnjlaaGreatDoorCompiles20
import Derived.Test.YtfkdailfcmnjlaaGreatDoorCompiles21
import Derived.Test.YtfkdailfcmnjlaaGreatDoorLays
import Derived.WalkKit
import Derived.Deep.QuietTactic
import Derived.BigQuiet
import Derived.WalkSpells
import GoSem.Op.String
import Derived.Deep.AppendLies
import Derived.Deep.RegionHeld3
import Derived.Deep.DrawnRows
import Derived.Deep.RegionHeldLaw
import Derived.Deep.RegionLaw
import Derived.Lib.ParseIntBCases
set_option linter.unusedVariables false
set_option linter.unusedSimpArgs false
namespace Go.Proofs.YtfkdailfcmnjlaaGreatDoor
open Go Go.RowKit
set_option maxRecDepth 100000

theorem tok_cases {ts : List Tok} (hW : ∀ t ∈ ts, TokW t) (j : Nat) : TokW (tokAt ts j) ∨ tokAt ts j = noTok := by
  by_cases h : tokAt ts j = noTok
  · exact .inr h
  · exact .inl (hW _ (inside h).2)
theorem see_iff {ts : List Tok} (hW : ∀ t ∈ ts, TokW t) (j : Nat) {x : List UInt8} (hx : x ∈ spell.drop 3) {k : Nat} (hk : kn x = k) : isW (tokAt ts j) x = decide (kindOf (tokAt ts j) = k) := by
  rcases tok_cases hW j with h | h
  · rw [Bool.eq_iff_iff, isW_iff h hx, hk]; simp
  · have := spell_big x hx
    rw [h, noTok_isW, show kindOf noTok = 0 from by decide, ← hk]
    unfold kn
    symm; rw [decide_eq_false_iff_not]; omega
theorem kind_two {t : Tok} : kindOf t = 2 ↔ t.k = 111 := by
  unfold kindOf
  constructor
  · intro h
    by_cases h1 : t.k = 110
    · rw [if_pos h1] at h; simp at h
    · rw [if_neg h1] at h
      by_cases h2 : t.k = 111
      · exact h2
      · rw [if_neg h2] at h
        by_cases h3 : t.k = 101
        · rw [if_pos h3] at h; simp at h
        · rw [if_neg h3] at h
          exfalso
          have key : ∀ x : List UInt8, (idx spell x).toNat ≠ 2 := by
            intro x
            by_cases hx : x = []
            · subst hx; decide
            · have hx' : ∀ r : List (List UInt8), idx ([] :: r) x = if idx r x < 0 then -1 else idx r x + 1 := fun r => by
                rw [idx, if_neg (by simpa using hx)]
              have e : spell = [] :: [] :: [] :: spell.drop 3 := by decide
              rw [e, hx', hx', hx']
              have := idx_ge (spell.drop 3) x
              split
              · decide
              · omega
          exact key _ h
  · intro h; rw [if_neg (by omega), if_pos h]
theorem sees_one (ts : List Tok) (k j : Nat) : sees ts [k] j = decide (kindOf (tokAt ts j) = k) := by
  unfold sees; exact one_contains _ _

/-- The words of an item. -/
def ItOf (x : Itm) (t u : Tok) : Prop :=
  (x.name ≠ [] ∧ kindOf t = 11 ∧ t.pl = x.pl ∧ kindOf u = 2 ∧ u.pl = x.named ∧ ownOf u = x.name ∧ nmOf u = 0) ∨
  (x.name = [] ∧ kindOf t = (if x.allow then 12 else 13) ∧ t.pl = x.pl ∧ u = zTok)
/-- What reading an item leaves. -/
def LeftPI (rb gl cl : Nat) (ts : List Tok) (s : Q) (w : World) (r : ItR) (e : Ending) (w' : World) : Prop :=
  ∃ t u b, e = .returned (itV t u b) ∧ PF rb w w' ∧ ((r.ok = true ∧ RR rb gl cl ts { s with i := r.i } w' ∧ CondAt r.L rb w' r.it.top b ∧ ItOf r.it t u) ∨ (r.ok = false ∧ RR rb gl cl ts (failQ ts { s with i := r.i }) w'))

theorem tail_parts {f : Nat} {ts : List Tok} {i : Nat} {L : List Pt} {x : Itm} {r : ItR} (h : itemTail f ts i L x = some r) :
    ∃ a : Rd, P f 6 ts i L 0 = some a ∧ ((a.ok = true ∧ isW (tokAt ts a.i) [59] = true ∧ r = ⟨true, a.i + 1, a.L, { x with top := a.top, parts := a.L.length }⟩) ∨ ((a.ok && isW (tokAt ts a.i) [59]) = false ∧ r.ok = false ∧ r.i = a.i)) := by
  unfold itemTail at h
  cases ha : P f 6 ts i L 0 with
  | none => rw [ha] at h; simp at h
  | some a =>
    rw [ha] at h
    simp only at h
    refine ⟨a, rfl, ?_⟩
    by_cases ok : a.ok = true
    · rw [if_pos ok] at h
      by_cases hw : isW (tokAt ts a.i) [59] = true
      · rw [if_pos hw] at h; simp at h; exact .inl ⟨ok, hw, h.symm⟩
      · rw [if_neg hw] at h; simp [itFail] at h; subst h; exact .inr ⟨by rw [ok]; simpa using hw, rfl, rfl⟩
    · rw [if_neg ok] at h; simp [itFail] at h; subst h
      exact .inr ⟨by simp at ok; rw [ok]; rfl, rfl, rfl⟩

theorem pitem_any {f rb gl cl : Nat} {ts : List Tok} {s : Q} {w : World} (hf : FormOK f 152 6 rb gl cl ts) (hW : ∀ t ∈ ts, TokW t) (hN : ∀ t ∈ ts, t.k = 111 → t.text ≠ []) (h : RR rb gl cl ts s w) (hgood : s.bad = false) {L : List Pt} {r : ItR} (hI : itemP f ts s.i L = some r) :
    Calls Tryz.prog 104 #[.pointer (some ⟨rb, 0, none⟩)] w (LeftPI rb gl cl ts s w r) := by
  unfold itemP at hI
  have sLet := see_iff hW s.i (x := wLet) (by decide) (k := 11) (by decide)
  have sAllow := see_iff hW s.i (x := wAllow) (by decide) (k := 12) (by decide)
  have sDeny := see_iff hW s.i (x := wDeny) (by decide) (k := 13) (by decide)
  have finish : ∀ {ok3 : Bool} {j3 : Nat} {a : Rd} {t u : Tok} {x : Itm} {ok4 ok5 : Bool} {j4 j5 : Nat}, ok3 = true → j4 = (if ok3 then a.i else j3) → ok4 = (ok3 && a.ok) → ok5 = (ok4 && sees ts [5] j4) → j5 = nextI ok5 j4 → ItOf { x with top := a.top, parts := a.L.length } t u →
      ((a.ok = true ∧ isW (tokAt ts a.i) [59] = true ∧ r = ⟨true, a.i + 1, a.L, { x with top := a.top, parts := a.L.length }⟩) ∨ ((a.ok && isW (tokAt ts a.i) [59]) = false ∧ r.ok = false ∧ r.i = a.i)) →
      ∀ e w', (∃ b, e = .returned (itV t u b) ∧ PF rb w w' ∧ RR rb gl cl ts (Stp ts s ok5 j5) w' ∧ (ok4 = true → CondAt a.L rb w' a.top b)) → LeftPI rb gl cl ts s w r e w' := by
    intro ok3 j3 a t u x ok4 ok5 j4 j5 e3 e6 e7 e8 e9 hO hr e w' ⟨b, he, hF, hR, hC⟩
    subst e3
    have e6 : j4 = a.i := e6
    rw [Bool.true_and] at e7
    subst e6
    have hs := see_iff hW a.i (x := [59]) (by decide) (k := 5) (by decide)
    rw [sees_one, ← hs, e7] at e8
    refine ⟨t, u, b, he, hF, ?_⟩
    rcases hr with ⟨ok, hw, rfl⟩ | ⟨no, rok, ri⟩
    · rw [ok, hw] at e8
      have e8 : ok5 = true := e8
      subst e8; subst e9
      exact .inl ⟨rfl, hR, hC (by rw [e7]; exact ok), hO⟩
    · rw [no] at e8
      subst e8; subst e9
      exact .inr ⟨rok, by rw [ri]; exact hR⟩
  have fails : ∀ {t u : Tok} {j : Nat} {a : Rd} {ok4 : Bool}, r = ⟨false, j, [], noItm⟩ → ∀ e w', (∃ b, e = .returned (itV t u b) ∧ PF rb w w' ∧ RR rb gl cl ts (Stp ts s false j) w' ∧ (ok4 = true → CondAt a.L rb w' a.top b)) → LeftPI rb gl cl ts s w r e w' := by
    intro t u j a ok4 e e' w' ⟨b, he, hF, hR, _⟩
    subst e
    exact ⟨t, u, b, he, hF, .inr ⟨rfl, hR⟩⟩
  by_cases hl : isW (tokAt ts s.i) wLet = true
  · rw [if_pos hl] at hI
    have hk : kindOf (tokAt ts s.i) = 11 := by rw [sLet] at hl; simpa using hl
    by_cases ho : (tokAt ts (s.i + 1)).k = 111
    · rw [if_pos ho] at hI
      have k2 : sees ts [2] (s.i + 1) = true := by rw [sees_one]; simpa using kind_two.2 ho
      have s8 := see_iff hW (s.i + 2) (x := [61]) (by decide) (k := 8) (by decide)
      have eu : wantT ts true (s.i + 1) [2] = tokAt ts (s.i + 1) := by unfold wantT; rw [k2]; rfl
      have hne := hN _ (inside (ts := ts) (i := s.i + 1) fun e => by rw [e] at ho; simp [noTok] at ho).2 ho
      by_cases h8 : isW (tokAt ts (s.i + 2)) [61] = true
      · rw [if_pos h8] at hI
        obtain ⟨a, hP, hr⟩ := tail_parts hI
        have k8 : sees ts [8] (s.i + 2) = true := by rw [sees_one, ← s8]; exact h8
        refine (pitem_let hf h hgood hk (ok2 := true) (ok3 := true) (j2 := s.i + 2) (j3 := s.i + 3) k2.symm rfl (by rw [k8]; rfl) rfl (fun _ => hP) rfl rfl rfl rfl).mono ?_
        refine finish (ok3 := true) (j3 := s.i + 3) rfl rfl rfl rfl rfl ?_ hr
        rw [eu]
        refine .inl ⟨hne, hk, rfl, kind_two.2 ho, rfl, ?_, ?_⟩
        · unfold ownOf; rw [if_pos ho]
        · unfold nmOf; rw [if_neg (by omega)]
      · rw [if_neg h8] at hI
        have k8 : sees ts [8] (s.i + 2) = false := by rw [sees_one, ← s8]; simpa using h8
        simp [itFail] at hI
        refine (pitem_let hf h hgood hk (ok2 := true) (ok3 := false) (j2 := s.i + 2) (j3 := s.i + 2) k2.symm rfl (by rw [k8]; rfl) rfl (L := L) (a := ⟨false, 0, [], 0⟩) (fun e => by simp at e) rfl rfl rfl rfl).mono ?_
        exact fails hI.symm
    · rw [if_neg ho] at hI
      have k2 : sees ts [2] (s.i + 1) = false := by rw [sees_one]; simpa using fun e => ho (kind_two.1 e)
      simp [itFail] at hI
      refine (pitem_let hf h hgood hk (ok2 := false) (ok3 := false) (j2 := s.i + 1) (j3 := s.i + 1) k2.symm rfl rfl rfl (L := L) (a := ⟨false, 0, [], 0⟩) (fun e => by simp at e) rfl rfl rfl rfl).mono ?_
      exact fails hI.symm
  · rw [if_neg hl] at hI
    have hk11 : kindOf (tokAt ts s.i) ≠ 11 := by rw [sLet] at hl; simpa using hl
    have hkw : kindOf (wantT ts true s.i [11, 12, 13]) ≠ 11 := by
      unfold wantT; split
      · exact hk11
      · decide
    have s3 : sees ts [11, 12, 13] s.i = (isW (tokAt ts s.i) wAllow || isW (tokAt ts s.i) wDeny) := by
      rw [sAllow, sDeny, Bool.eq_iff_iff]
      unfold sees
      rw [List.contains_iff_mem]
      simp [hk11]
    by_cases ha : (isW (tokAt ts s.i) wAllow || isW (tokAt ts s.i) wDeny) = true
    · rw [if_pos ha] at hI
      rw [ha] at s3
      have s14 := see_iff hW (s.i + 1) (x := wIf) (by decide) (k := 14) (by decide)
      have et : wantT ts true s.i [11, 12, 13] = tokAt ts s.i := by unfold wantT; rw [s3]; rfl
      by_cases hi : isW (tokAt ts (s.i + 1)) wIf = true
      · rw [if_pos hi] at hI
        obtain ⟨a, hP, hr⟩ := tail_parts hI
        have k14 : sees ts [14] (s.i + 1) = true := by rw [sees_one, ← s14]; exact hi
        refine (item_rule hf h hgood hkw (ok2 := true) (ok3 := true) (j2 := s.i + 1) (j3 := s.i + 2) s3.symm rfl (by rw [k14]; rfl) rfl (fun _ => hP) rfl rfl rfl rfl).mono ?_
        refine finish (ok3 := true) (j3 := s.i + 2) rfl rfl rfl rfl rfl ?_ hr
        rw [et]
        refine .inr ⟨rfl, ?_, rfl, rfl⟩
        simp only
        by_cases h12 : isW (tokAt ts s.i) wAllow = true
        · rw [if_pos (by simpa using (isW_text h12).1)]
          rw [sAllow] at h12; simpa using h12
        · have h13 : isW (tokAt ts s.i) wDeny = true := by
            simp at ha; rcases ha with ha | ha
            · exact absurd ha h12
            · exact ha
          rw [if_neg (by rw [(isW_text h13).1]; decide)]
          rw [sDeny] at h13; simpa using h13
      · rw [if_neg hi] at hI
        have k14 : sees ts [14] (s.i + 1) = false := by rw [sees_one, ← s14]; simpa using hi
        simp [itFail] at hI
        refine (item_rule hf h hgood hkw (ok2 := true) (ok3 := false) (j2 := s.i + 1) (j3 := s.i + 1) s3.symm rfl (by rw [k14]; rfl) rfl (L := L) (a := ⟨false, 0, [], 0⟩) (fun e => by simp at e) rfl rfl rfl rfl).mono ?_
        exact fails hI.symm
    · rw [if_neg ha] at hI
      have s3' : sees ts [11, 12, 13] s.i = false := by rw [s3]; simpa using ha
      simp [itFail] at hI
      refine (item_rule hf h hgood hkw (ok2 := false) (ok3 := false) (j2 := s.i) (j3 := s.i) s3'.symm rfl rfl rfl (L := L) (a := ⟨false, 0, [], 0⟩) (fun e => by simp at e) rfl rfl rfl rfl).mono ?_
      exact fails hI.symm
end Go.Proofs.YtfkdailfcmnjlaaGreatDoor

namespace Go.Proofs.YtfkdailfcmnjlaaGreatDoor
open Go Go.RowKit
set_option maxRecDepth 100000
attribute [local go_sem ↓] Go.wp_at_zero Go.wp_at_succ

theorem info_pitem : (Tryz.prog.info? 163).map (fun i => (i.zero, i.size, i.bytes)) = some (some (.agg #[.int .i64 0, .int .i64 0, .int .i64 0, .string ⟨#[]⟩, .int .i64 0, .int .i64 0, .int .i64 0, .string ⟨#[]⟩, .int .i64 0, .pointer none]), 10, 96) := by kernel_rfl

/-- An item's cells. -/
def icell (y : Tok × Tok × Nat × Int) : List Value := [.int .i64 (kindOf y.1), .int .i64 y.1.pl, .int .i64 (nmOf y.1), S (ownOf y.1), .int .i64 (kindOf y.2.1), .int .i64 y.2.1.pl, .int .i64 (nmOf y.2.1), S (ownOf y.2.1), .int .i64 y.2.2.2, .pointer (some ⟨y.2.2.1, 0, none⟩)]
def iCells (ys : List (Tok × Tok × Nat × Int)) : List Value := ys.flatMap icell
theorem iCells_len (ys : List (Tok × Tok × Nat × Int)) : (iCells ys).length = ys.length * 10 := by
  induction ys with
  | nil => rfl
  | cons t ts ih => simp [iCells, icell] at ih ⊢; omega
theorem iCells_snoc (ys : List (Tok × Tok × Nat × Int)) (y : Tok × Tok × Nat × Int) : iCells (ys ++ [y]) = iCells ys ++ icell y := by simp [iCells]
/-- The items lie as they were read. -/
def ItemsAt (C : Nat → Nat → Prop) : List Itm → List (Tok × Tok × Nat × Int) → Prop
  | [], [] => True
  | x :: xs, y :: ys => (C x.top y.2.2.1 ∧ ItOf x y.1 y.2.1) ∧ ItemsAt C xs ys
  | _, _ => False
theorem ItemsAt.mono {C C' : Nat → Nat → Prop} (hC : ∀ i b, C i b → C' i b) : ∀ {xs ys}, ItemsAt C xs ys → ItemsAt C' xs ys
  | [], [], _ => trivial
  | _ :: _, _ :: _, h => ⟨⟨hC _ _ h.1.1, h.1.2⟩, ItemsAt.mono hC h.2⟩
theorem ItemsAt.snoc {C : Nat → Nat → Prop} {x : Itm} {y : Tok × Tok × Nat × Int} (h1 : C x.top y.2.2.1) (h2 : ItOf x y.1 y.2.1) : ∀ {xs ys}, ItemsAt C xs ys → ItemsAt C (xs ++ [x]) (ys ++ [y])
  | [], [], _ => ⟨⟨h1, h2⟩, trivial⟩
  | _ :: _, _ :: _, h => ⟨h.1, ItemsAt.snoc h1 h2 h.2⟩
theorem ItemsAt.len {C : Nat → Nat → Prop} : ∀ {xs ys}, ItemsAt C xs ys → ys.length = xs.length
  | [], [], _ => rfl
  | _ :: _, _ :: _, h => by simp [ItemsAt.len h.2]

theorem item_fwd {F : Nat} {ts : List Tok} {i : Nat} {L : List Pt} {r : ItR} (h : itemP F ts i L = some r) (ok : r.ok = true) : i < r.i ∧ ∃ new, r.L = L ++ new := by
  have tail : ∀ (j : Nat) (x : Itm), i < j → itemTail F ts j L x = some r → i < r.i ∧ ∃ new, r.L = L ++ new := by
    intro j x hj hr
    obtain ⟨a, ha, hres⟩ := tail_parts hr
    rcases hres with ⟨oka, hw, rfl⟩ | ⟨_, hr1, _⟩
    · have f1 := (P_fwd F 6 ts j L 0 a ha oka (by omega)).1
      exact ⟨by simp; omega, P_new ha oka (by omega)⟩
    · rw [hr1] at ok; simp at ok
  unfold itemP at h
  split at h
  · split at h
    · split at h
      · exact tail _ _ (by omega) h
      · simp [itFail] at h; subst h; simp at ok
    · simp [itFail] at h; subst h; simp at ok
  · split at h
    · split at h
      · exact tail _ _ (by omega) h
      · simp [itFail] at h; subst h; simp at ok
    · simp [itFail] at h; subst h; simp at ok
theorem kind_end {t : Tok} (h : TokW t) : kindOf t = 0 ↔ t.k = 101 := by
  rcases h.cases with h | h | h | ⟨h, hm⟩
  · unfold kindOf; rw [if_pos h]; omega
  · unfold kindOf; rw [if_neg (by omega), if_pos h]; omega
  · unfold kindOf; rw [if_neg (by omega), if_neg (by omega), if_pos h]; simp [h]
  · rw [kind_word h]; have := spell_big _ hm; unfold kn; omega

theorem RR.grown {rb gl cl : Nat} {ts : List Tok} {s : Q} {w w' : World} {row : Option Nat} (h : RR rb gl cl ts s w) (hg : w.grownBy w' row) (h1 : row ≠ some rb) (h2 : row ≠ some gl) : RR rb gl cl ts s w' :=
  h.move (hg.block _ h.glt h2.symm) (by rw [hg.block _ h.rlt h1.symm]; exact h.rd) h.lt
/-- A row of items is not the reader, nor its words, nor a tree. -/
theorem row_block {w : World} {base : Nat} {v : Value} {n : Nat} {xs : List Value} (h : w.ownsRow base 163 10 v n xs) {k : Nat} (hk : v.ownBlock = some k) : ∃ cs, w.heap[k]? = some (.cells cs 163 (0, 0)) := by
  rcases h.2 with ⟨rfl, _⟩ | ⟨g, cap, cur, rfl, hb, hg, _⟩
  · simp [Value.ownBlock] at hk
  · simp [Value.ownBlock] at hk; subst hk; exact ⟨cur, hg⟩
theorem RR.apart {rb gl cl : Nat} {ts : List Tok} {s : Q} {w : World} (h : RR rb gl cl ts s w) {base : Nat} {v : Value} {n : Nat} {xs : List Value} (hr : w.ownsRow base 163 10 v n xs) : v.ownBlock ≠ some rb ∧ v.ownBlock ≠ some gl := by
  constructor
  · intro e
    obtain ⟨cs, hc⟩ := row_block hr e
    rw [h.rd] at hc; simp [rdObj] at hc
  · intro e
    obtain ⟨cs, hc⟩ := row_block hr e
    obtain ⟨cs', hw⟩ := h.wl
    rw [hw] at hc; simp at hc
theorem CondAt.grown {L : List Pt} {lt : Nat} {w w' : World} {i b : Nat} (h : CondAt L lt w i b) {base : Nat} {v : Value} {n : Nat} {xs : List Value} (hr : w.ownsRow base 163 10 v n xs) (hg : w.grownBy w' v.ownBlock) : CondAt L lt w' i b :=
  h.keep fun k cs ty hk ht => hg.block k (lt_of_get hk) fun e => by
    obtain ⟨cs', hc⟩ := row_block hr e.symm
    rw [hk] at hc
    simp only [Option.some.injEq, Obj.cells.injEq] at hc
    rw [hc.2.1] at ht
    exact absurd ht (by decide)
theorem ownsRow_pf {w w' : World} {rb gl cl : Nat} {ts : List Tok} {s : Q} (hR : RR rb gl cl ts s w) {base : Nat} {v : Value} {n : Nat} {xs : List Value} (h : w.ownsRow base 163 10 v n xs) (hb : PF rb w w') : w'.ownsRow base 163 10 v n xs := by
  have ha := (hR.apart h).1
  obtain ⟨h1, h2⟩ := h
  refine ⟨h1, ?_⟩
  rcases h2 with h2 | ⟨g, cap, cur, rfl, b, c, d⟩
  · exact .inl h2
  · refine .inr ⟨g, cap, cur, rfl, b, ?_, d⟩
    rw [hb.block g (lt_of_get c) (fun e => ha (by rw [e]; rfl))]; exact c
end Go.Proofs.YtfkdailfcmnjlaaGreatDoor

namespace Go.Proofs.YtfkdailfcmnjlaaGreatDoor
open Go Go.RowKit
set_option maxRecDepth 100000
attribute [local go_sem ↓] Go.wp_at_zero Go.wp_at_succ
variable {bs : Nat}

set_option maxHeartbeats 4000000 in
theorem typeOfWord_any (k : Nat) (w : World) (hk : k ≤ 100) : Calls Tryz.prog 154 #[.int .i64 k] w fun e w' => e = .returned (.int .i64 (wordK k)) ∧ w' = w := by
  have HK : Hid (wordK k = if k = 1 ∨ (27 ≤ k ∧ k ≤ 30) then 1 else if k = 20 ∨ k = 21 ∨ k = 34 ∨ k = 35 then 2 else if (22 ≤ k ∧ k ≤ 26) ∨ (31 ≤ k ∧ k ≤ 33) then 3 else 0) := rfl
  generalize wordK k = r at *
  go_enter Tryz.func154, Tryz.ntmps154
  go_wp2
  all_goals go_ret
  all_goals refine ⟨ret_int ?_, rfl⟩
  all_goals rw [HK.out]
  all_goals clear HK
  all_goals (repeat' split)
  all_goals first
    | rfl
    | (exfalso; omega)
    | (exfalso; simp at *; omega)

set_option maxHeartbeats 2000000 in
theorem ifAll_any (us : List Nat) (g o cap want give : Nat) (w : World) (hl : us.length ≤ 100) (hb : want ≤ 100)
    (hc : ∀ j, j < us.length → w.cell? ⟨g, o + j, none⟩ = some (.int .i64 (us.getD j 0)) ∧ us.getD j 0 ≤ 100) :
    Calls Tryz.prog 218 #[.slice (some ⟨g, o, none⟩) us.length cap, .int .i64 want, .int .i64 give] w fun e w' => e = .returned (.int .i64 (ifAllK us want give)) ∧ w' = w := by
  have HC : Hid _ := hc
  clear hc
  go_enter Tryz.func218, Tryz.ntmps218
  go_wp2
  go_loop [11] (fun i => ∃ k : Nat, k ≤ us.length ∧ i = .int .i64 k ∧ Hid (∀ q, q < k → us.getD q 0 = want)) (fun i => us.length - (intOf i).toNat)
  case atStart => exact ⟨0, Nat.zero_le _, rfl, fun q hq => by omega⟩
  case round =>
    obtain ⟨k, hk, rfl, HQ⟩ := hrel
    by_cases hlt : k < us.length
    · obtain ⟨hcell, hx100⟩ := HC.out k hlt
      have hmem : Hid (us.getD k 0 ∈ us) := by rw [List.getD_eq_getElem?_getD, List.getElem?_eq_getElem hlt]; exact List.getElem_mem hlt
      clear HC
      generalize hx : us.getD k 0 = x at hcell hmem hx100
      have HX : Hid _ := hx
      clear hx
      by_cases hv : x = want
      · subst hv
        go_wp2
        refine ⟨⟨k + 1, by omega, by go_num, fun q hq => ?_⟩, by simp [intOf]; omega⟩
        by_cases e : q = k
        · rw [e]; exact HX.out
        · exact HQ.out q (by omega)
      · have hv' : ¬ ((x : Int) = (want : Int)) := by omega
        have hv2 : ((x : Int) == (want : Int)) = false := by simpa using hv'
        have HV : Hid _ := hv
        clear hv
        go_wp2
        go_ret
        refine ⟨ret_int ?_, rfl⟩
        unfold ifAllK
        rw [if_neg (fun e => HV.out (by simpa using List.all_eq_true.1 e x hmem.out))]; rfl
    · go_wp2
      go_ret
      refine ⟨ret_int ?_, rfl⟩
      unfold ifAllK
      rw [if_pos]
      rw [List.all_eq_true]
      intro x hx
      obtain ⟨j, hj, rfl⟩ := List.mem_iff_getElem.1 hx
      have := HQ.out j (by omega)
      rw [List.getD_eq_getElem?_getD, List.getElem?_eq_getElem hj] at this
      simpa using this
set_option maxHeartbeats 2000000 in
theorem tyIndex_any (ks : List Nat) (v : Nat) (b cap : Nat) (w : World) (hl : ks.length ≤ 100)
    (hc : ∀ j, j < ks.length → w.cell? ⟨b, j, none⟩ = some (.int .i64 (ks.getD j 0))) :
    Calls Tryz.prog 217 #[.slice (some ⟨b, 0, none⟩) ks.length cap, .int .i64 v] w fun e w' => (∃ r : Int, e = .returned (.int .i64 r) ∧ -1 ≤ r ∧ r ≤ 1000 ∧ (decide (0 ≤ r) = ks.contains v)) ∧ w' = w := by
  have HC : Hid _ := hc
  clear hc
  go_enter Tryz.func217, Tryz.ntmps217
  go_wp2
  go_loop [8] (fun i => ∃ k : Nat, k ≤ ks.length ∧ i = .int .i64 k ∧ Hid (∀ q, q < k → ks.getD q 0 ≠ v)) (fun i => ks.length - (intOf i).toNat)
  case atStart => exact ⟨0, Nat.zero_le _, rfl, fun q hq => by omega⟩
  case round =>
    obtain ⟨k, hk, rfl, HQ⟩ := hrel
    by_cases hlt : k < ks.length
    · have hcell := HC.out k hlt
      have hmem : Hid (ks.getD k 0 ∈ ks) := by rw [List.getD_eq_getElem?_getD, List.getElem?_eq_getElem hlt]; exact List.getElem_mem hlt
      generalize hx : ks.getD k 0 = x at hcell hmem
      have HX : Hid _ := hx
      clear hx
      by_cases hv : v = x
      · subst hv
        go_wp2
        go_ret
        refine ⟨⟨k, rfl, by omega, by omega, ?_⟩, rfl⟩
        simp [hmem.out]
      · have hv' : ¬ ((v : Int) = (x : Int)) := by omega
        have hv2 : ((v : Int) == (x : Int)) = false := by simpa using hv'
        have HV : Hid _ := hv
        clear hv
        go_wp2
        refine ⟨⟨k + 1, by omega, by go_num, fun q hq => ?_⟩, by simp [intOf]; omega⟩
        by_cases e : q = k
        · rw [e, HX.out]; exact fun e => HV.out e.symm
        · exact HQ.out q (by omega)
    · go_wp2
      go_ret
      refine ⟨⟨-1, rfl, by omega, by omega, ?_⟩, rfl⟩
      have hno : v ∉ ks := fun e => by
        obtain ⟨j, hj, hj2⟩ := List.mem_iff_getElem.1 e
        exact HQ.out j (by omega) (by rw [List.getD_eq_getElem?_getD, List.getElem?_eq_getElem hj]; exact hj2)
      simp [hno]
set_option maxHeartbeats 1000000 in
theorem tyContains_any (ks : List Nat) (v : Nat) (b cap : Nat) (w : World) (hl : ks.length ≤ 100)
    (hc : ∀ j, j < ks.length → w.cell? ⟨b, j, none⟩ = some (.int .i64 (ks.getD j 0))) :
    Calls Tryz.prog 155 #[.slice (some ⟨b, 0, none⟩) ks.length cap, .int .i64 v] w fun e w' => e = .returned (.bool (ks.contains v)) ∧ w' = w := by
  have HI := tyIndex_any ks v b cap w hl hc
  clear hc
  go_enter Tryz.func155, Tryz.ntmps155
  go_wp2_with fail
  refine HI.mono ?_
  rintro e w' ⟨⟨r, rfl, h1, h2, h3⟩, rfl⟩
  have H3 : Hid _ := h3
  clear HI h3
  go_wp2_with fail
  go_ret
  exact ⟨ret_bool H3.out, rfl⟩
end Go.Proofs.YtfkdailfcmnjlaaGreatDoor

namespace Go.Proofs.YtfkdailfcmnjlaaGreatDoor
open Go Go.RowKit
set_option maxRecDepth 100000
attribute [local go_sem ↓] Go.wp_at_zero Go.wp_at_succ
variable {bs : Nat}

set_option maxHeartbeats 2000000 in
theorem typeOver_any (k : Nat) (us : List Nat) (g : Nat) (w : World) (hl : us.length ≤ 3) (hl0 : 0 < us.length)
    (hk : k = 6 ∨ k = 7 ∨ k = 9 ∨ k = 10 ∨ k = 17 ∨ k = 18 ∨ k = 19 ∨ k = 8 ∨ k = 14) (h8 : k = 8 → True) (h14 : k = 14 → us.length = 3)
    (hc : ∀ j, j < us.length → w.cell? ⟨g, j, none⟩ = some (.int .i64 (us.getD j 0)) ∧ us.getD j 0 ≤ 100) :
    Calls Tryz.prog 156 #[.int .i64 k, .slice (some ⟨g, 0, none⟩) us.length us.length] w fun e w' => e = .returned (.int .i64 (overK k us)) ∧ Below w.heap.size w w' := by
  rcases hk with hk | hk | hk | hk | hk | hk | hk | hk | hk
  · subst hk
    have HI := ifAll_any us g 0 us.length 1 1 w (by omega) (by omega) (by simpa using hc)
    have HO : Hid (overK 6 us = ifAllK us 1 1) := rfl
    clear hc h8 h14
    generalize overK 6 us = r at *
    go_enter Tryz.func156, Tryz.ntmps156
    go_wp2_with fail
    refine HI.mono ?_
    rintro e w' ⟨rfl, rfl⟩
    clear HI
    go_wp2_with fail
    go_ret
    exact ⟨ret_int (by rw [HO.out]), Below.refl _ _⟩
  · subst hk
    have HI := ifAll_any us g 0 us.length 1 1 w (by omega) (by omega) (by simpa using hc)
    have HO : Hid (overK 7 us = ifAllK us 1 1) := rfl
    clear hc h8 h14
    generalize overK 7 us = r at *
    go_enter Tryz.func156, Tryz.ntmps156
    go_wp2_with fail
    refine HI.mono ?_
    rintro e w' ⟨rfl, rfl⟩
    clear HI
    go_wp2_with fail
    go_ret
    exact ⟨ret_int (by rw [HO.out]), Below.refl _ _⟩
  · subst hk
    have HI := ifAll_any us g 0 us.length 1 2 w (by omega) (by omega) (by simpa using hc)
    have HO : Hid (overK 9 us = ifAllK us 1 2) := rfl
    clear hc h8 h14
    generalize overK 9 us = r at *
    go_enter Tryz.func156, Tryz.ntmps156
    go_wp2_with fail
    refine HI.mono ?_
    rintro e w' ⟨rfl, rfl⟩
    clear HI
    go_wp2_with fail
    go_ret
    exact ⟨ret_int (by rw [HO.out]), Below.refl _ _⟩
  · subst hk
    have HI := ifAll_any us g 0 us.length 1 2 w (by omega) (by omega) (by simpa using hc)
    have HO : Hid (overK 10 us = ifAllK us 1 2) := rfl
    clear hc h8 h14
    generalize overK 10 us = r at *
    go_enter Tryz.func156, Tryz.ntmps156
    go_wp2_with fail
    refine HI.mono ?_
    rintro e w' ⟨rfl, rfl⟩
    clear HI
    go_wp2_with fail
    go_ret
    exact ⟨ret_int (by rw [HO.out]), Below.refl _ _⟩
  · subst hk
    have HI := ifAll_any us g 0 us.length 2 2 w (by omega) (by omega) (by simpa using hc)
    have HO : Hid (overK 17 us = ifAllK us 2 2) := rfl
    clear hc h8 h14
    generalize overK 17 us = r at *
    go_enter Tryz.func156, Tryz.ntmps156
    go_wp2_with fail
    refine HI.mono ?_
    rintro e w' ⟨rfl, rfl⟩
    clear HI
    go_wp2_with fail
    go_ret
    exact ⟨ret_int (by rw [HO.out]), Below.refl _ _⟩
  · subst hk
    have HI := ifAll_any us g 0 us.length 2 2 w (by omega) (by omega) (by simpa using hc)
    have HO : Hid (overK 18 us = ifAllK us 2 2) := rfl
    clear hc h8 h14
    generalize overK 18 us = r at *
    go_enter Tryz.func156, Tryz.ntmps156
    go_wp2_with fail
    refine HI.mono ?_
    rintro e w' ⟨rfl, rfl⟩
    clear HI
    go_wp2_with fail
    go_ret
    exact ⟨ret_int (by rw [HO.out]), Below.refl _ _⟩
  · subst hk
    have HI := ifAll_any us g 0 us.length 2 2 w (by omega) (by omega) (by simpa using hc)
    have HO : Hid (overK 19 us = ifAllK us 2 2) := rfl
    clear hc h8 h14
    generalize overK 19 us = r at *
    go_enter Tryz.func156, Tryz.ntmps156
    go_wp2_with fail
    refine HI.mono ?_
    rintro e w' ⟨rfl, rfl⟩
    clear HI
    go_wp2_with fail
    go_ret
    exact ⟨ret_int (by rw [HO.out]), Below.refl _ _⟩
  · subst hk
    obtain ⟨hc0, hb0⟩ := hc 0 hl0
    have HI := ifAll_any us g 0 us.length (us.getD 0 0) 2 w (by omega) hb0 (by simpa using hc)
    have HO : Hid (overK 8 us = ifAllK us (us.getD 0 0) 2) := rfl
    clear hc h8 h14
    generalize overK 8 us = r at *
    generalize us.getD 0 0 = u0 at *
    go_enter Tryz.func156, Tryz.ntmps156
    go_wp2_with fail
    refine HI.mono ?_
    rintro e w' ⟨rfl, rfl⟩
    clear HI
    go_wp2_with fail
    go_ret
    exact ⟨ret_int (by rw [HO.out]), Below.refl _ _⟩
  · subst hk
    have h3 := h14 rfl
    obtain ⟨hc0, hb0⟩ := hc 0 hl0
    obtain ⟨hc1, hb1⟩ := hc 1 (by omega)
    have HI := ifAll_any (us.drop 1) g 1 (us.length - 1) (us.getD 1 0) (us.getD 1 0) w.drew (by simp; omega) hb1 (fun j hj => by
      have := hc (1 + j) (by simp at hj; omega)
      rw [show (us.drop 1).getD j 0 = us.getD (1 + j) 0 from by simp [List.getD_eq_getElem?_getD, Nat.add_comm]]
      exact this)
    rw [show (us.drop 1).length = us.length - 1 from by simp] at HI
    have HO : Hid (overK 14 us = if us.getD 0 0 = 2 then ifAllK (us.drop 1) (us.getD 1 0) (us.getD 1 0) else 0) := rfl
    clear hc h8 h14
    generalize overK 14 us = r at *
    generalize us.getD 0 0 = u0 at *
    generalize us.getD 1 0 = u1 at *
    generalize us.drop 1 = ur at *
    rw [h3] at HI
    rw [h3]
    by_cases h2 : u0 = 2
    · subst h2
      go_enter Tryz.func156, Tryz.ntmps156
      go_wp2_with fail
      go_region_held3 (fun w' => w'.cell? ⟨g, 1, none⟩ = some (.int .i64 u1)) (first | exact hc1 | go_keep) ((refine HI.mono ?_; rintro e w' ⟨rfl, rfl⟩))
      go_wp2_with fail
      go_ret
      exact ⟨ret_int (by rw [HO.out]; simp), (Below.refl _ _).drew⟩
    · have hv2 : ((u0 : Int) == (2 : Int)) = false := by
        have : ¬ ((u0 : Int) = 2) := by omega
        simpa using this
      have H2 : Hid _ := h2
      clear h2 HI
      go_enter Tryz.func156, Tryz.ntmps156
      go_wp2_with fail
      go_ret
      exact ⟨ret_int (by rw [HO.out, if_neg H2.out]; rfl), Below.refl _ _⟩
end Go.Proofs.YtfkdailfcmnjlaaGreatDoor

namespace Go.Proofs.YtfkdailfcmnjlaaGreatDoor
open Go Go.RowKit
set_option maxRecDepth 100000
attribute [local go_sem ↓] Go.wp_at_zero Go.wp_at_succ

/-- The items with their numbers. -/
def numF : Nat → Nat → List (Tok × Tok × Nat × Int) → List (Tok × Tok × Nat × Int)
  | _, _, [] => []
  | l, r, y :: ys => if kindOf y.1 = 11 then (y.1, y.2.1, y.2.2.1, (l : Int)) :: numF (l + 1) r ys else (y.1, y.2.1, y.2.2.1, ((r + 1 : Nat) : Int)) :: numF l (r + 1) ys
/-- Every item has its number. -/
def Numb : Nat → Nat → List Itm → List (Tok × Tok × Nat × Int) → Prop
  | _, _, [], [] => True
  | l, r, x :: xs, y :: ys => (x.name ≠ [] ∧ y.2.2.2 = (l : Int) ∧ Numb (l + 1) r xs ys) ∨ (x.name = [] ∧ y.2.2.2 = ((r + 1 : Nat) : Int) ∧ Numb l (r + 1) xs ys)
  | _, _, _, _ => False
theorem numF_len : ∀ (l r : Nat) (ys : List (Tok × Tok × Nat × Int)), (numF l r ys).length = ys.length
  | _, _, [] => rfl
  | l, r, y :: ys => by
    rw [numF]
    split
    · simp [numF_len (l + 1) r ys]
    · simp [numF_len l (r + 1) ys]
theorem itOf_let {x : Itm} {t u : Tok} (h : ItOf x t u) : (x.name ≠ [] ∧ kindOf t = 11) ∨ (x.name = [] ∧ kindOf t ≠ 11) := by
  rcases h with h | h
  · exact .inl ⟨h.1, h.2.1⟩
  · exact .inr ⟨h.1, by rw [h.2.1]; split <;> decide⟩
theorem numb_ok {C : Nat → Nat → Prop} : ∀ {xs : List Itm} {ys : List (Tok × Tok × Nat × Int)} (l r : Nat), ItemsAt C xs ys → Numb l r xs (numF l r ys) ∧ ItemsAt C xs (numF l r ys)
  | [], [], _, _, _ => ⟨trivial, trivial⟩
  | x :: xs, y :: ys, l, r, h => by
    obtain ⟨⟨h1, h2⟩, h3⟩ := h
    rw [numF]
    rcases itOf_let h2 with ⟨hn, hk⟩ | ⟨hn, hk⟩
    · rw [if_pos hk]
      obtain ⟨i1, i2⟩ := numb_ok (l + 1) r h3
      exact ⟨.inl ⟨hn, rfl, i1⟩, ⟨h1, h2⟩, i2⟩
    · rw [if_neg hk]
      obtain ⟨i1, i2⟩ := numb_ok l (r + 1) h3
      exact ⟨.inr ⟨hn, rfl, i1⟩, ⟨h1, h2⟩, i2⟩

/-- A row of items, its cells. -/
theorem row_cells {w : World} {base : Nat} {v : Value} {ys : List (Tok × Tok × Nat × Int)} (h : w.ownsRow base 163 10 v ys.length (iCells ys)) : ∃ a cap, v = .slice a ys.length cap ∧ ∀ k, k < ys.length → ∃ g, a = some ⟨g, 0, none⟩ ∧ (∃ cs, w.heap[g]? = some (.cells cs 163 (0, 0))) ∧ ∀ j, j < 10 → w.cell? ⟨g, k * 10 + j, none⟩ = (icell (ys.getD k (zTok, zTok, 0, 0)))[j]? := by
  obtain ⟨hl, h⟩ := h
  rcases h with ⟨rfl, h0⟩ | ⟨g, cap, cur, rfl, hb, hg, h1, h2, h3, h4⟩
  · exact ⟨none, 0, by rw [h0], fun k hk => by omega⟩
  · refine ⟨_, cap, rfl, fun k hk => ⟨g, rfl, ⟨cur, hg⟩, fun j hj => ?_⟩⟩
    rw [cell_of_row w g (k * 10 + j) _ _ _ hg]
    have e1 : cur[k * 10 + j]? = (cur.toList.take (ys.length * 10))[k * 10 + j]? := by
      rw [List.getElem?_take_of_lt (by omega)]; simp
    rw [e1, h4]
    have : ∀ (ys : List (Tok × Tok × Nat × Int)) (k : Nat), k < ys.length → (iCells ys)[k * 10 + j]? = (icell (ys.getD k (zTok, zTok, 0, 0)))[j]? := by
      intro ys
      induction ys with
      | nil => intro k hk; simp at hk
      | cons y ys ih =>
        intro k hk
        have e2 : iCells (y :: ys) = icell y ++ iCells ys := rfl
        have e3 : (icell y).length = 10 := rfl
        cases k with
        | zero => rw [e2, List.getElem?_append_left (by omega)]; simp
        | succ k =>
          rw [e2, List.getElem?_append_right (by omega), e3, show (k + 1) * 10 + j - 10 = k * 10 + j from by omega, ih k (by simpa using hk)]
          rfl
    exact this ys k hk

/-- A cell of a row is written. -/
theorem row_setCell {w : World} {base : Nat} {e : TypeId} {size g n cap : Nat} {xs : List Value} (h : w.ownsRow base e size (.slice (some ⟨g, 0, none⟩) n cap) n xs) {j : Nat} (hj : j < n * size) (u : Value) : (w.setCell ⟨g, j, none⟩ u).ownsRow base e size (.slice (some ⟨g, 0, none⟩) n cap) n (xs.set j u) := by
  obtain ⟨hl, h⟩ := h
  refine ⟨by simpa using hl, ?_⟩
  rcases h with ⟨h, _⟩ | ⟨g', cap', cur, h, h1, h2, h3, h4, h5, h6⟩
  · simp at h
  · simp only [Value.slice.injEq, Option.some.injEq, Addr.mk.injEq, and_true, true_and] at h
    obtain ⟨rfl, rfl⟩ := h
    refine .inr ⟨g, cap, cur.setIfInBounds j u, rfl, h1, heap_setCell_same w g j _ _ u h2, h3, h4, by simpa using h5, ?_⟩
    rw [← h6]
    simp [List.take_set]
theorem grown_set {w w' : World} {g : Nat} (h : w.grownBy w' (some g)) (j : Nat) (u : Value) : w.grownBy (w'.setCell ⟨g, j, none⟩ u) (some g) :=
  ⟨h.os, h.tape, h.output, by simpa using h.size, fun k hk hn => (Below.heap_setCell _ _ _ _ (by simpa using hn)).trans (h.block k hk hn)⟩
theorem iCells_set (d : List (Tok × Tok × Nat × Int)) (y : Tok × Tok × Nat × Int) (r : List (Tok × Tok × Nat × Int)) (n : Int) : (iCells (d ++ y :: r)).set (d.length * 10 + 8) (.int .i64 n) = iCells (d ++ (y.1, y.2.1, y.2.2.1, n) :: r) := by
  have e : ∀ a b : List (Tok × Tok × Nat × Int), iCells (a ++ b) = iCells a ++ iCells b := fun a b => by simp [iCells]
  rw [e, e, ← iCells_len d, List.set_append_right _ _ (by omega)]
  congr 1
  rw [show (iCells d).length + 8 - (iCells d).length = 8 by omega]
  simp [iCells, icell]
set_option maxHeartbeats 4000000 in
theorem count_any {ys : List (Tok × Tok × Nat × Int)} {base : Nat} {v : Value} {w : World} (hrow : w.ownsRow base 163 10 v ys.length (iCells ys)) (hy : ys.length ≤ 1001) :
    Calls Tryz.prog 105 #[v] w fun e w' => e = .returned (.tuple #[]) ∧ w'.ownsRow base 163 10 v ys.length (iCells (numF 0 0 ys)) ∧ w.grownBy w' v.ownBlock := by
  have hsl : ∃ a cap, v = .slice a ys.length cap := by
    rcases hrow.2 with ⟨rfl, h0⟩ | ⟨g, cap, cur, rfl, _⟩
    · exact ⟨none, 0, by rw [h0]⟩
    · exact ⟨_, cap, rfl⟩
  obtain ⟨a, cap, rfl⟩ := hsl
  have hyl := hy
  clear hy
  generalize hn : ys.length = n at *
  have HN : Hid _ := hn
  clear hn
  have HW : Hid (w.ownsRow base 163 10 (.slice a n cap) n (iCells ys)) := hrow
  clear hrow
  have HNF : Hid (numF 0 0 ys = numF 0 0 ys) := rfl
  generalize hnf : numF 0 0 ys = nf at *
  have HF : Hid _ := hnf
  clear hnf HNF
  go_enter Tryz.func105, Tryz.ntmps105
  go_wp2_with fail
  go_loopw [2, 3, 7] (fun lv rv kv wr => ∃ (k l r : Nat) (d rest : List (Tok × Tok × Nat × Int)), k ≤ n ∧ l ≤ k ∧ r ≤ k ∧ kv = .int .i64 k ∧ lv = .int .i64 l ∧ rv = .int .i64 r ∧ Hid (d.length = k ∧ k + rest.length = n ∧ nf = d ++ numF l r rest ∧ wr.ownsRow base 163 10 (.slice a n cap) n (iCells (d ++ rest)) ∧ w.grownBy wr (Value.slice a n cap).ownBlock)) (fun _ _ kv _ => n - (intOf kv).toNat)
  case atStart => exact ⟨0, 0, 0, [], ys, Nat.zero_le _, Nat.zero_le _, Nat.zero_le _, rfl, rfl, rfl, rfl, by rw [Nat.zero_add]; exact HN.out, HF.out.symm, HW.out, World.grownBy.refl _ _⟩
  case round =>
    obtain ⟨k, l, r, d, rest, hk, hl, hr, rfl, rfl, rfl, HI⟩ := hrel
    by_cases hlt : k < n
    · obtain ⟨h1, h2, h3, h4, h5⟩ := HI.out
      clear HI
      cases rest with
      | nil => simp at h2; omega
      | cons y q =>
        have hown := h4
        rcases h4.2 with ⟨_, h0⟩ | ⟨g, cap', cur, e, hb, hg, _⟩
        · omega
        · simp only [Value.slice.injEq, true_and] at e
          obtain ⟨rfl, rfl⟩ := e
          have hcell : ∀ j, j < 10 → wr.cell? ⟨g, k * 10 + j, none⟩ = (icell y)[j]? := fun j hj => by
            have hown' : wr.ownsRow base 163 10 (.slice (some ⟨g, 0, none⟩) (d ++ y :: q).length cap) (d ++ y :: q).length (iCells (d ++ y :: q)) := by
              have e : (d ++ y :: q).length = n := by simp at h2 ⊢; omega
              rw [e]; exact hown
            obtain ⟨a', cap', e, hc⟩ := row_cells hown'
            obtain ⟨g', e', _, hc⟩ := hc k (by simp; omega)
            simp only [Value.slice.injEq, true_and] at e
            rw [← e.1] at e'
            simp at e'
            rw [← e'] at hc
            have e3 : (d ++ y :: q).getD k (zTok, zTok, 0, 0) = y := by
              rw [List.getD_eq_getElem?_getD, List.getElem?_append_right (by omega), h1]; simp
            rw [e3] at hc
            exact hc j hj
          have c0 : wr.cell? ⟨g, k * 10, none⟩ = some (.int .i64 (kindOf y.1)) := hcell 0 (by omega)
          have c8 : wr.cell? ⟨g, k * 10 + 8, none⟩ = some (.int .i64 y.2.2.2) := hcell 8 (by omega)
          have hfz : ∀ j, wr.frozen? ⟨g, j, none⟩ = false := fun j => by simp [World.frozen?, hg]
          have hset := fun (m : Int) => row_setCell hown (j := k * 10 + 8) (by omega) (.int .i64 m)
          have hset2 := fun (m : Int) => iCells_set d y q m
          rw [h1] at hset2
          have HS : Hid (∀ m : Int, (wr.setCell ⟨g, k * 10 + 8, none⟩ (.int .i64 m)).ownsRow base 163 10 (.slice (some ⟨g, 0, none⟩) n cap) n (iCells (d ++ (y.1, y.2.1, y.2.2.1, m) :: q)) ∧ w.grownBy (wr.setCell ⟨g, k * 10 + 8, none⟩ (.int .i64 m)) (Value.slice (some ⟨g, 0, none⟩) n cap).ownBlock) := fun m => ⟨by rw [← hset2 m]; exact hset m, grown_set h5 _ _⟩
          have H3 : Hid _ := h3
          have H1 : Hid _ := h1
          have H2 : Hid _ := h2
          clear hset hset2 hown h4 h5 h3 h1 h2 hcell hg
          by_cases hk11 : kindOf y.1 = 11
          · rw [hk11] at c0
            go_wp2_with fail
            go_roundw
            case rel =>
              refine ⟨k + 1, l + 1, r, d ++ [(y.1, y.2.1, y.2.2.1, (l : Int))], q, by omega, by omega, by omega, by simp, by simp, rfl, by simp [H1.out], by have := H2.out; simp at this; omega, ?_, ?_, (HS.out l).2⟩
              · rw [H3.out, numF, if_pos hk11]; simp
              · have := (HS.out l).1
                simpa using this
            case measure => simp [intOf]; omega
          · have hk2 : ((kindOf y.1 : Int) == (11 : Int)) = false := by
              have : ¬ ((kindOf y.1 : Int) = 11) := by omega
              simpa using this
            have HK : Hid _ := hk11
            clear hk11
            generalize kindOf y.1 = kd at c0 hk2
            go_wp2_with fail
            go_roundw
            case rel =>
              refine ⟨k + 1, l, r + 1, d ++ [(y.1, y.2.1, y.2.2.1, ((r + 1 : Nat) : Int))], q, by omega, by omega, by omega, by simp, rfl, by simp, by simp [H1.out], by have := H2.out; simp at this; omega, ?_, ?_, ?_⟩
              · rw [H3.out, numF, if_neg HK.out]; simp
              · have := (HS.out ((r + 1 : Nat) : Int)).1
                simpa using this
              · have := (HS.out ((r + 1 : Nat) : Int)).2
                simpa using this
            case measure => simp [intOf]; omega
    · have hke : k = n := by omega
      subst hke
      obtain ⟨h1, h2, h3, h4, h5⟩ := HI.out
      have hr : rest = [] := by cases rest with
        | nil => rfl
        | cons y q => simp at h2
      subst hr
      have HE : Hid (wr.ownsRow base 163 10 (.slice a k cap) k (iCells nf) ∧ w.grownBy wr (Value.slice a k cap).ownBlock) := ⟨by rw [h3]; exact h4, h5⟩
      clear h1 h2 h3 h4 h5 HI
      go_wp2_with fail
      go_end0
      exact ⟨rfl, HE.out⟩
end Go.Proofs.YtfkdailfcmnjlaaGreatDoor

namespace Go.Proofs.YtfkdailfcmnjlaaGreatDoor
open Go Go.RowKit
set_option maxRecDepth 100000
attribute [local go_sem ↓] Go.wp_at_zero Go.wp_at_succ

/-- What reading all items answers. -/
def ParseAns (ts : List Tok) (R : AllR) (w : World) (e : Ending) (w' : World) : Prop :=
  Below w.heap.size w w' ∧ ((R.ok = false ∧ e = .returned (.tuple #[.slice none 0 0, .int .i64 (tokAt ts R.i).pl, .bool false])) ∨
    (R.ok = true ∧ ∃ v ys, e = .returned (.tuple #[v, .int .i64 0, .bool true]) ∧ ys.length ≤ 1001 ∧ w'.ownsRow w.heap.size 163 10 v ys.length (iCells ys) ∧ ItemsAt (CondAt R.L w.heap.size w') R.xs ys ∧ Numb 0 0 R.xs ys))
/-- The state ahead of a round. -/
def Rnd (F rb gl cl : Nat) (ts : List Tok) (R : AllR) (lo : Nat) (v : Value) (wr : World) : Prop :=
  (∃ (i : Nat) (L : List Pt) (xs : List Itm) (g : Nat) (ys : List (Tok × Tok × Nat × Int)), RR rb gl cl ts ⟨i, false, 0⟩ wr ∧ parseAll F ts g i L xs = some R ∧ ys.length ≤ i ∧ wr.ownsRow lo 163 10 v ys.length (iCells ys) ∧ ItemsAt (CondAt L rb wr) xs ys) ∨
  (R.ok = false ∧ RR rb gl cl ts (failQ ts ⟨R.i, false, 0⟩) wr)

set_option maxHeartbeats 4000000 in
theorem parse_any {F g gl cl : Nat} {ts : List Tok} {R : AllR} {w : World} (hW : ∀ t ∈ ts, TokW t) (hN : ∀ t ∈ ts, t.k = 111 → t.text ≠ []) (hn : 0 < ts.length) (hn1 : ts.length ≤ 1001) (hfin : kindOf (tokAt ts (ts.length - 1)) = 0)
    (wl : ∃ cs, w.heap[gl]? = some (.cells cs 160 (0, 0)))
    (wc : ∀ i, i < ts.length → w.cell? ⟨gl, i * 4, none⟩ = some (.int .i64 (kindOf (tokAt ts i))) ∧ w.cell? ⟨gl, i * 4 + 1, none⟩ = some (.int .i64 (tokAt ts i).pl) ∧ w.cell? ⟨gl, i * 4 + 2, none⟩ = some (.int .i64 (nmOf (tokAt ts i))) ∧ w.cell? ⟨gl, i * 4 + 3, none⟩ = some (S (ownOf (tokAt ts i))))
    (hR : parseAll F ts g 0 [] [] = some R) :
    Calls Tryz.prog 56 #[.slice (some ⟨gl, 0, none⟩) ts.length cl] w (ParseAns ts R w) := by
  obtain ⟨i0, hi, hz0, hz1, hz2⟩ := info_parts info_pitem
  have hgl : gl < w.heap.size := lt_of_get wl.choose_spec
  have hb0 : Below w.heap.size w (w.alloc (rdObj gl ts.length cl ⟨0, false, 0⟩)) := (Below.refl _ _).alloc (Nat.le_refl _) _
  have h0 : RR w.heap.size gl cl ts ⟨0, false, 0⟩ (w.alloc (rdObj gl ts.length cl ⟨0, false, 0⟩)) := by
    refine ⟨heap_alloc_new w _, ?_, fun i hi => ?_, hn, hn1, hfin⟩
    · rw [hb0.block _ hgl]; exact wl
    · have e : ∀ j, (w.alloc (rdObj gl ts.length cl ⟨0, false, 0⟩)).cell? ⟨gl, j, none⟩ = w.cell? ⟨gl, j, none⟩ := fun j => World.cell?_of_block (w := w) (hb0.block _ hgl)
      rw [e, e, e, e]; exact wc i hi
  have hrnd : Rnd F w.heap.size gl cl ts R w.heap.size (.slice none 0 0) (w.alloc (rdObj gl ts.length cl ⟨0, false, 0⟩)) :=
    .inl ⟨0, [], [], g, [], h0, hR, by simp, World.ownsRow_nil _ _ _ _, trivial⟩
  have HFM : Hid _ := (forms (rb := w.heap.size) (gl := gl) (cl := cl) hW F).1
  have HW : Hid _ := hW
  have HN : Hid _ := hN
  clear h0 hR wl wc hW hN
  unfold rdObj at hb0 hrnd
  go_enter Tryz.func56, Tryz.ntmps56
  go_wp2_with fail
  generalize w.alloc (.cells #[.slice (some ⟨gl, 0, none⟩) ts.length cl, .int .i64 (0 : Nat), .bool false, .int .i64 (0 : Nat)] 213 (0, 0)) = wz at hb0 hrnd
  generalize hrb : w.heap.size = rb at *
  go_loopw [6] (fun v wr => Rnd F rb gl cl ts R rb v wr ∧ Below rb w wr) (fun _ wr => ts.length - rdI2 rb wr)
  case atStart => exact ⟨hrnd, hb0⟩
  case round =>
    obtain ⟨hrd, hbw⟩ := hrel
    rcases hrd with ⟨i, L, xs, g', ys, hr, hp, hyl, hown, hit⟩ | ⟨rok, hr⟩
    · have ht := HW.out _ (tokAt_mem hr.lt)
      simp only [] at ht
      have HK := kind_any hr
      simp only [] at HK
      by_cases hk : kindOf (tokAt ts i) = 0
      · have hRe := parse_end hp ((kind_end ht).1 hk)
        subst hRe
        rw [hk] at HK
        obtain ⟨⟨r0, r1, r2, r3⟩, rf⟩ := hr.drew.cells
        have hown0 : wr.drew.ownsRow rb 163 10 u6 ys.length (iCells ys) := hown
        have hyl2 : ys.length ≤ 1001 := by have := hr.lt; have := hr.nb; simp only [] at *; omega
        have WC := count_any hown0 hyl2
        have HA : Hid (∀ w', w'.ownsRow rb 163 10 u6 ys.length (iCells (numF 0 0 ys)) → wr.drew.grownBy w' u6.ownBlock → ParseAns ts ⟨true, i, L, xs⟩ w (.returned (.tuple #[u6, .int .i64 0, .bool true])) w') := fun w' ho hg => by
          have hbn : ∀ q, u6.ownBlock = some q → rb ≤ q := fun q hq => by
            rcases hown0.2 with ⟨e, _⟩ | ⟨g, c, cur, e, hb, _⟩
            · rw [e] at hq; simp [Value.ownBlock] at hq
            · rw [e] at hq; simp [Value.ownBlock] at hq; omega
          have hB : Below w.heap.size w w' := ⟨hg.os.trans hbw.drew.os, hg.tape.trans hbw.drew.tape, hg.output.trans hbw.drew.output, Nat.le_trans hbw.drew.size hg.size, fun q hq => by
            rw [hrb] at hq
            rw [hg.block q (by have := hbw.drew.size; omega) (fun e => by have := hbn q e.symm; omega)]
            exact hbw.drew.block q hq⟩
          obtain ⟨n1, n2⟩ := numb_ok 0 0 hit
          refine ⟨hB, .inr ⟨rfl, u6, numF 0 0 ys, rfl, by rw [numF_len]; exact hyl2, ?_, ?_, n1⟩⟩
          · rw [hrb, numF_len]; exact ho
          · rw [hrb]; exact n2.mono fun i b h => (h.keep fun k _ _ _ _ => rfl : CondAt L rb wr.drew i b).grown hown0 hg
        clear hown hit hp ht hr hown0
        go_wp2_with fail
        refine HK.mono ?_
        rintro e w' ⟨rfl, rfl⟩
        clear HK
        go_wp2_with fail
        refine WC.mono ?_
        rintro e w' ⟨rfl, ho, hg⟩
        clear WC
        have HA2 : Hid (ParseAns ts ⟨true, i, L, xs⟩ w (.returned (.tuple #[u6, .int .i64 0, .bool true])) w') := HA.out w' ho hg
        clear HA ho hg
        go_wp2_with fail
        refine bodyPost_ret (v := .tuple #[u6, .int .i64 0, .bool true]) (by simp [results, Tryz.results56, go_sem]) rfl ?_
        exact HA2.out
      · obtain ⟨r, g2, hrI, hcase⟩ := parse_step hp fun e => hk ((kind_end ht).2 e)
        have hmore := hr.more (by simpa using hk)
        have hk2 : ((kindOf (tokAt ts i) : Int) == (0 : Int)) = false := by
          have : ¬ ((kindOf (tokAt ts i) : Int) = 0) := by omega
          simpa using this
        have HIt := pitem_any HFM.out HW.out HN.out hr.drew rfl hrI
        have hown0 : wr.drew.ownsRow rb 163 10 u6 ys.length (iCells ys) := hown
        have hlt := hr.lt
        have hnb := hr.nb
        simp only [] at hlt hmore
        have HR : Hid _ := hr
        have HCs : Hid _ := hcase
        have HT : Hid _ := hit
        have HI : Hid _ := hrI
        clear hp ht hown hr hcase hit hrI
        generalize kindOf (tokAt ts i) = kd at *
        go_wp2_with fail
        refine HK.mono ?_
        rintro e w' ⟨rfl, rfl⟩
        clear HK
        go_wp2_with fail
        refine HIt.mono ?_
        rintro e w1 ⟨t, u, b, rfl, F1, hL⟩
        clear HIt
        have hown1 := ownsRow_pf HR.out.drew hown0 F1
        have hbw1 : Below rb w w1 := ⟨F1.os.trans hbw.drew.os, F1.tape.trans hbw.drew.tape, F1.output.trans hbw.drew.output, Nat.le_trans hbw.drew.size F1.size, fun k hk => (F1.block k (by have := hbw.drew.size; omega) (by omega)).trans (hbw.drew.block k hk)⟩
        have hs1 := hbw1.size
        have HL : Hid _ := hL
        have HF1 : Hid _ := F1
        clear hL F1 hown0
        unfold itV
        go_wp2_with (
          at_builtin
          go_must (refine wpList_append_lies _ (by rfl) _ _ 84 (by rfl) rb 163 i0 (.agg #[.int .i64 0, .int .i64 0, .int .i64 0, .string ⟨#[]⟩, .int .i64 0, .int .i64 0, .int .i64 0, .string ⟨#[]⟩, .int .i64 0, .pointer none]) 10 96 Tryz.underlying84 hi hz0 hz1 hz2 (by rfl) (by decide) _ _ _ (by rfl) (hown1.alloc _) ⟨w1.heap.size, 0, none⟩ 1 1 (icell (t, u, b, 0)) (by rfl) (by rfl) (World.news_of_block (heap_alloc_new w1 _)) (fun x hx => by simp [icell] at hx; rcases hx with rfl | rfl | rfl | rfl | rfl | rfl | rfl | rfl | rfl | rfl <;> rfl) (by decide) (by unfold maxLen; omega) (by omega) (by simp; omega) _ rfl ?_)
          intro g3 cap w3 hown3 hgrow3 hat hlt3)
        have hbw3 : Below rb w w3 := by subst hrb; exact below_far1 hbw1 hown1 hgrow3
        rcases HL.out with ⟨ok, h1, hc, hio⟩ | ⟨ok, h1⟩
        · have ha := h1.apart hown1
          have h3 := (h1.alloc _).grown hgrow3 ha.1 ha.2
          obtain ⟨hfw, hnew⟩ := item_fwd HI.out ok
          refine ⟨⟨.inl ⟨r.i, r.L, xs ++ [r.it], g2, ys ++ [(t, u, b, 0)], h3, ?_, by simp; omega, ?_, ?_⟩, hbw3⟩, ?_⟩
          · rcases HCs.out with ⟨_, hp⟩ | ⟨no, _⟩
            · exact hp
            · rw [ok] at no; simp at no
          · rw [iCells_snoc]; simpa using hown3
          · refine ItemsAt.snoc (((hc.grow ((Below.refl _ _).alloc (Nat.le_refl _) _)).grown (hown1.alloc _) hgrow3)) hio (HT.out.mono fun i b h => ?_)
            exact (more_at ((h.pf HR.out (PF.refl rb wr).drew).pf HR.out.drew HF1.out) hnew).grow ((Below.refl _ _).alloc (Nat.le_refl _) _) |>.grown (hown1.alloc _) hgrow3
          · rw [rdI2_eq h3, rdI2_eq HR.out]; have := h3.lt; simp only [] at *; omega
        · have ha := h1.apart hown1
          have h3 := (h1.alloc _).grown hgrow3 ha.1 ha.2
          refine ⟨⟨.inr ?_, hbw3⟩, ?_⟩
          · rcases HCs.out with ⟨yes, _⟩ | ⟨_, rfl⟩
            · rw [ok] at yes; simp at yes
            · exact ⟨rfl, h3⟩
          · rw [rdI2_eq h3, rdI2_eq HR.out]; simp only [failQ]; omega
    · have HK := kind_any hr
      have hk : kindOf (tokAt ts (failQ ts ⟨R.i, false, 0⟩).i) = 0 := by rw [show (failQ ts ⟨R.i, false, 0⟩).i = ts.length - 1 from rfl]; exact hr.fin
      rw [hk] at HK
      obtain ⟨⟨r0, r1, r2, r3⟩, rf⟩ := hr.drew.cells
      have HA : Hid (ParseAns ts R w (.returned (.tuple #[.slice none 0 0, .int .i64 (tokAt ts R.i).pl, .bool false])) wr.drew.drew) :=
        ⟨by rw [hrb]; exact hbw.drew.drew, .inl ⟨rok, rfl⟩⟩
      simp only [failQ] at r0 r1 r2 r3
      rw [if_neg (by simp)] at r3
      clear hr hk
      generalize (tokAt ts R.i).pl = pp at *
      go_wp2_with fail
      refine HK.mono ?_
      rintro e w' ⟨rfl, rfl⟩
      clear HK
      go_wp2_with fail
      go_region_held (fun w' => w'.cell? ⟨rb, 3, none⟩ = some (.int .i64 pp)) (go_keep) (fail)
      go_wp2_with fail
      refine bodyPost_ret (v := .tuple #[.slice none 0 0, .int .i64 pp, .bool false]) (by simp [results, Tryz.results56, go_sem]) rfl ?_
      exact HA.out
end Go.Proofs.YtfkdailfcmnjlaaGreatDoor

namespace Go.Proofs.YtfkdailfcmnjlaaGreatDoor
open Go Go.RowKit
set_option maxRecDepth 100000
attribute [local go_sem ↓] Go.wp_at_zero Go.wp_at_succ
variable {bs : Nat}

/-- The part of a list lies at a block as the program's tree; what is said of each note. -/
structure CondS (bs : Nat) (L : List Pt) (N : Tok → Int → Prop) (w : World) (i b : Nat) : Prop where
  lay ::
  out : ∀ C : Nat → Nat → Prop, (∀ (i b : Nat) (u : Value) (n : Int) (bl : Nat → Nat), i < L.length → bs ≤ b → N (L.getD i noPt).tok n → w.heap[b]? = some (cdObj (L.getD i noPt).tok u n) → UnderAt w u (L.getD i noPt).subs.length bl →
    (∀ j, j < (L.getD i noPt).subs.length → C ((L.getD i noPt).subs.getD j 0) (bl j)) → C i b) → C i b
theorem CondS.mk {L : List Pt} {N : Tok → Int → Prop} {w : World} (i b : Nat) (u : Value) (n : Int) (bl : Nat → Nat) (hi : i < L.length) (hlo : bs ≤ b) (hn : N (L.getD i noPt).tok n) (hb : w.heap[b]? = some (cdObj (L.getD i noPt).tok u n))
    (hu : UnderAt w u (L.getD i noPt).subs.length bl) (hs : ∀ j, j < (L.getD i noPt).subs.length → CondS bs L N w ((L.getD i noPt).subs.getD j 0) (bl j)) : CondS bs L N w i b :=
  ⟨fun C hC => hC i b u n bl hi hlo hn hb hu fun j hj => (hs j hj).out C hC⟩
theorem CondS.ind {L : List Pt} {N : Tok → Int → Prop} {w : World} (M : Nat → Nat → Prop)
    (hM : ∀ (i b : Nat) (u : Value) (n : Int) (bl : Nat → Nat), i < L.length → bs ≤ b → N (L.getD i noPt).tok n → w.heap[b]? = some (cdObj (L.getD i noPt).tok u n) → UnderAt w u (L.getD i noPt).subs.length bl →
      (∀ j, j < (L.getD i noPt).subs.length → CondS bs L N w ((L.getD i noPt).subs.getD j 0) (bl j)) → (∀ j, j < (L.getD i noPt).subs.length → M ((L.getD i noPt).subs.getD j 0) (bl j)) → M i b)
    {i b : Nat} (h : CondS bs L N w i b) : M i b :=
  (h.out (fun i b => CondS bs L N w i b ∧ M i b) fun i b u n bl hi hlo hn hb hu hs => ⟨.mk i b u n bl hi hlo hn hb hu fun j hj => (hs j hj).1, hM i b u n bl hi hlo hn hb hu (fun j hj => (hs j hj).1) fun j hj => (hs j hj).2⟩).2
theorem CondS.inv {L : List Pt} {N : Tok → Int → Prop} {w : World} {i b : Nat} (h : CondS bs L N w i b) : ∃ (u : Value) (n : Int) (bl : Nat → Nat), i < L.length ∧ bs ≤ b ∧ N (L.getD i noPt).tok n ∧ w.heap[b]? = some (cdObj (L.getD i noPt).tok u n) ∧ UnderAt w u (L.getD i noPt).subs.length bl ∧ ∀ j, j < (L.getD i noPt).subs.length → CondS bs L N w ((L.getD i noPt).subs.getD j 0) (bl j) :=
  h.ind (fun i b => ∃ (u : Value) (n : Int) (bl : Nat → Nat), i < L.length ∧ bs ≤ b ∧ N (L.getD i noPt).tok n ∧ w.heap[b]? = some (cdObj (L.getD i noPt).tok u n) ∧ UnderAt w u (L.getD i noPt).subs.length bl ∧ ∀ j, j < (L.getD i noPt).subs.length → CondS bs L N w ((L.getD i noPt).subs.getD j 0) (bl j)) fun _ _ u n bl hi hlo hn hb hu hs _ => ⟨u, n, bl, hi, hlo, hn, hb, hu, hs⟩
theorem CondAt.toS {L : List Pt} {w : World} {i b : Nat} (h : CondAt L bs w i b) {N : Tok → Int → Prop} (hN : ∀ k, k < L.length → N (L.getD k noPt).tok 0) : CondS bs L N w i b :=
  h.ind (fun i b => CondS bs L N w i b) fun i b u bl hi hlo hb hu _ _ ih => .mk i b u 0 bl hi hlo (hN i hi) hb hu ih
theorem CondS.keep {L : List Pt} {N : Tok → Int → Prop} {w w' : World} {i b : Nat} (h : CondS bs L N w i b)
    (hk : ∀ (k : Nat) (cs : Array Value) (ty : TypeId), w.heap[k]? = some (Obj.cells cs ty (0, 0)) → ty = 229 ∨ ty = 161 → w'.heap[k]? = w.heap[k]?) : CondS bs L N w' i b := by
  refine h.ind (fun i b => CondS bs L N w' i b) ?_
  · intro i b u n bl hi hlo hn hb hu hs ih
    refine .mk i b u n bl hi hlo hn ?_ ?_ ih
    · rw [hk b _ _ hb (.inl rfl)]; exact hb
    · rcases hu with hu | ⟨h0, g, h1, h2⟩
      · exact .inl hu
      · exact .inr ⟨h0, g, h1, by rw [hk g _ _ h2 (.inr rfl)]; exact h2⟩
theorem CondS.grow {L : List Pt} {N : Tok → Int → Prop} {w w' : World} {i b : Nat} (h : CondS bs L N w i b) (hb : Below w.heap.size w w') : CondS bs L N w' i b :=
  h.keep fun k _ _ hk _ => hb.block k (lt_of_get hk)

theorem cd_cells {w : World} {b : Nat} {t : Tok} {u : Value} {n : Int} (h : w.heap[b]? = some (cdObj t u n)) : (w.cell? ⟨b, 0, none⟩ = some (.int .i64 (kindOf t)) ∧ w.cell? ⟨b, 1, none⟩ = some (.int .i64 t.pl) ∧ w.cell? ⟨b, 2, none⟩ = some (.int .i64 (nmOf t)) ∧ w.cell? ⟨b, 3, none⟩ = some (S (ownOf t)) ∧ w.cell? ⟨b, 4, none⟩ = some u ∧ w.cell? ⟨b, 5, none⟩ = some (.int .i64 n)) ∧ ∀ j, w.frozen? ⟨b, j, none⟩ = false := by
  have hc := fun j => cell_of_row w b j _ _ _ h
  exact ⟨⟨hc 0, hc 1, hc 2, hc 3, hc 4, hc 5⟩, fun j => by simp [World.frozen?, h, cdObj]⟩
theorem under_cell {w : World} {g n : Nat} {bl : Nat → Nat} (h : w.heap[g]? = some (.cells ((List.range n).map fun j => Value.pointer (some ⟨bl j, 0, none⟩)).toArray 161 (0, 0))) (j : Nat) (hj : j < n) : w.cell? ⟨g, j, none⟩ = some (.pointer (some ⟨bl j, 0, none⟩)) := by
  rw [cell_of_row w g j _ _ _ h]
  simp [hj]
/-- The list under a part, as a slice. -/
theorem UnderAt.slice {w : World} {u : Value} {n : Nat} {bl : Nat → Nat} (h : UnderAt w u n bl) : ∃ a, u = .slice a n n ∧ ∀ j, j < n → ∃ g, a = some ⟨g, 0, none⟩ ∧ w.heap[g]? = some (.cells ((List.range n).map fun j => Value.pointer (some ⟨bl j, 0, none⟩)).toArray 161 (0, 0)) := by
  rcases h with ⟨rfl, rfl⟩ | ⟨h0, g, rfl, hg⟩
  · exact ⟨none, rfl, fun j hj => by omega⟩
  · exact ⟨_, rfl, fun j _ => ⟨g, rfl, hg⟩⟩
theorem sumOf_take (F : Nat → Nat) (l : List Nat) (k : Nat) (hk : k < l.length) : sumOf F (l.take (k + 1)) = sumOf F (l.take k) + F (l.getD k 0) := by
  induction l generalizing k with
  | nil => simp at hk
  | cons x l ih =>
    cases k with
    | zero => simp [sumOf]
    | succ k => simp only [List.take_succ_cons, sumOf, List.getD_cons_succ]; rw [ih k (by simpa using hk)]; omega
theorem sumOf_le (F : Nat → Nat) (l : List Nat) (k : Nat) : sumOf F (l.take k) ≤ sumOf F l := by
  induction l generalizing k with
  | nil => simp [sumOf]
  | cons x l ih =>
    cases k with
    | zero => simp [sumOf]
    | succ k => simp only [List.take_succ_cons, sumOf]; have := ih k; omega

set_option maxHeartbeats 4000000 in
theorem parts_any {L : List Pt} {N : Tok → Int → Prop} (hL : L.length ≤ 5000) (f : Nat) : ∀ {lo i b : Nat} {w : World}, TreeF f L lo i → CondS bs L N w i b →
    Calls Tryz.prog 106 #[.pointer (some ⟨b, 0, none⟩)] w fun e w' => e = .returned (.int .i64 (cnt f L i)) ∧ Below w.heap.size w w' := by
  induction f with
  | zero => intro lo i b w h; exact h.elim
  | succ f ih =>
    intro lo i b w hT hC
    have hcnt := hT.cnt
    have hle := hT.le
    have hlt := hT.lt
    obtain ⟨u, n, bl, hi, hlo, hn, hb, hu, hs⟩ := hC.inv
    obtain ⟨⟨c0, c1, c2, c3, c4, c5⟩, cf⟩ := cd_cells hb
    rw [cnt] at hcnt
    obtain ⟨a, rfl, ha⟩ := hu.slice
    have hn3 : (L.getD i noPt).subs.length ≤ 3 := by
      rcases hT.2.1 with ⟨_, h1⟩ | ⟨_, h1⟩ | ⟨_, h1⟩ | ⟨m, _, _, h1⟩
      · rw [h1]; simp
      all_goals omega
    have hsub := forest_mem _ hT.2.2
    have HS : Hid _ := hs
    have HT : Hid _ := hsub
    have HA : Hid _ := ha
    clear hs hb hu hT hsub ha hn
    generalize hjs : (L.getD i noPt).subs = js at *
    have HJS : Hid _ := hjs
    clear hjs
    go_enter Tryz.func106, Tryz.ntmps106
    go_wp2_with fail
    go_loopw [3, 11] (fun nv kv wr => ∃ k, k ≤ js.length ∧ kv = .int .i64 k ∧ nv = .int .i64 (1 + sumOf (cnt f L) (js.take k) : Nat) ∧ Below w.heap.size w wr) (fun _ kv _ => js.length - (intOf kv).toNat)
    case atStart => exact ⟨0, Nat.zero_le _, rfl, rfl, Below.refl _ _⟩
    case round =>
      obtain ⟨k, hk, rfl, rfl, hbw⟩ := hrel
      have hsl := sumOf_le (cnt f L) js k
      by_cases hlt : k < js.length
      · obtain ⟨g, rfl, hg⟩ := HA.out k hlt
        have hg' : wr.heap[g]? = _ := (hbw.block g (lt_of_get hg)).trans hg
        have hcell := under_cell hg' k hlt
        have htk := sumOf_take (cnt f L) js k hlt
        have hsl2 := sumOf_le (cnt f L) js (k + 1)
        obtain ⟨lo', hT'⟩ := HT.out (js.getD k 0) (by rw [List.getD_eq_getElem?_getD, List.getElem?_eq_getElem hlt]; exact List.getElem_mem hlt)
        have HI := ih hT' ((HS.out k hlt).grow hbw)
        clear hg hg' hT'
        rw [htk] at hsl2
        have HTK : Hid _ := htk
        clear htk
        generalize sumOf (cnt f L) (js.take k) = A at *
        generalize cnt f L (js.getD k 0) = X at *
        go_wp2_with fail
        refine HI.mono ?_
        rintro e w1 ⟨rfl, hb1⟩
        clear HI
        go_wp2_with fail
        go_roundw
        case rel =>
          refine ⟨k + 1, by omega, by simp, ?_, hbw.trans (hb1.mono hbw.size)⟩
          rw [HTK.out]
          simp
          omega
        case measure => simp [intOf]; omega
      · have hke : k = js.length := by omega
        subst hke
        rw [List.take_length] at *
        go_wp2_with fail
        go_ret
        exact ⟨by rw [cnt, HJS.out]; rfl, hbw⟩
end Go.Proofs.YtfkdailfcmnjlaaGreatDoor
