/-
  The reference's reader: 'must' and 'adds'.
-/
import Derived.Test.YtfkdailfcmnjlaaGreatDoorCompiles01
import Derived.Test.YtfkdailfcmnjlaaGreatDoorCompiles04
import Derived.Test.YtfkdailfcmnjlaaGreatDoorCompiles05
import Derived.Test.YtfkdailfcmnjlaaGreatDoorCompiles06
import Derived.Test.YtfkdailfcmnjlaaGreatDoorCompiles07
import Derived.Test.YtfkdailfcmnjlaaGreatDoorCompiles08
import Derived.Deep.RegionHeldLaw
import Derived.WalkKit
import Derived.Deep.QuietTactic
import Derived.BigQuiet
import Derived.WalkSpells
import GoSem.Op.String
import Derived.Deep.AppendLies
import Derived.Deep.RegionHeld3
import Derived.Deep.DrawnRows
set_option linter.unusedVariables false
set_option linter.unusedSimpArgs false
namespace Go.Proofs.YtfkdailfcmnjlaaGreatDoor
open Go Go.RowKit
set_option maxRecDepth 100000
attribute [local go_sem ↓] Go.wp_at_zero Go.wp_at_succ

/-- The state behind 'must'. -/
def mustSt (ts : List Tok) (s : St) (x : List UInt8) : St := if seesB s.bad (tokAt ts s.i) x then { s with i := s.i + 1 } else { s with bad := true }

theorem sees_next {B rb gl cl : Nat} {ts : List Tok} {s : St} {w : World} (h : RS B rb gl cl ts s w) {x : List UInt8} (hs : seesB s.bad (tokAt ts s.i) x = true) : s.i + 1 < ts.length ∧ s.bad = false := by
  have h1 := h.hi
  have h2 := h.fin s.i
  unfold seesB isW at hs
  simp at hs
  refine ⟨?_, hs.1⟩
  rcases Nat.lt_or_ge (s.i + 1) ts.length with h3 | h3
  · exact h3
  · have h4 : (tokAt ts s.i).k = 101 := h2 (by omega)
    omega

theorem RS.next {B rb gl cl : Nat} {ts : List Tok} {s : St} {w : World} (h : RS B rb gl cl ts s w) (hi : s.i + 1 < ts.length) : RS B rb gl cl ts { s with i := s.i + 1 } (w.setCell ⟨rb, 1, none⟩ (.int .i64 ((s.i : Int) + 1))) :=
  h.set 1 _ _ (by simp) rfl rfl hi (by have := h.few; simp; omega)
theorem RS.fails {B rb gl cl : Nat} {ts : List Tok} {s : St} {w : World} (h : RS B rb gl cl ts s w) : RS B rb gl cl ts { s with bad := true } (w.setCell ⟨rb, 3, none⟩ (.bool true)) :=
  h.set 3 _ _ (by simp) rfl rfl h.hi h.few

set_option maxHeartbeats 1000000 in
theorem must_any {B rb gl cl : Nat} {ts : List Tok} {s : St} {w : World} (h : RS B rb gl cl ts s w) (x : List UInt8) :
    Calls Tryz.prog 114 #[.pointer (some ⟨rb, 0, none⟩), S x] w fun e w' => e = .returned (.tuple #[]) ∧ RS B rb gl cl ts (mustSt ts s x) w' ∧ Fr rb s.pv s.pv w w' := by
  have hrb := lt_of_get h.rd
  cases hs : seesB s.bad (tokAt ts s.i) x with
  | true =>
    obtain ⟨hi, hbad⟩ := sees_next h hs
    have hE : Hid (mustSt ts s x = { s with i := s.i + 1 }) := by show _ = _; unfold mustSt; rw [if_pos hs]
    have hn := h.hn
    go_enter Tryz.func114, Tryz.ntmps114
    go_wp2_with fail
    refine (sees_any h x).mono ?_
    rintro e w1 ⟨rfl, hb⟩
    have h1 := h.below hb
    obtain ⟨c0, c1, c2, c3⟩ := h1.cells
    have hf := h1.free
    rw [hs]
    clear hs
    go_wp2_with fail
    go_end0
    refine ⟨rfl, ?_, (Fr.of_below hb).set hrb _ _⟩
    rw [hE.out]; exact h1.next hi
  | false =>
    have hE : Hid (mustSt ts s x = { s with bad := true }) := by show _ = _; unfold mustSt; rw [if_neg (by simp [hs])]
    go_enter Tryz.func114, Tryz.ntmps114
    go_wp2_with fail
    refine (sees_any h x).mono ?_
    rintro e w1 ⟨rfl, hb⟩
    have h1 := h.below hb
    obtain ⟨c0, c1, c2, c3⟩ := h1.cells
    have hf := h1.free
    rw [hs]
    clear hs
    go_wp2_with fail
    go_end0
    refine ⟨rfl, ?_, (Fr.of_below hb).set hrb _ _⟩
    rw [hE.out]; exact h1.fails
end Go.Proofs.YtfkdailfcmnjlaaGreatDoor
