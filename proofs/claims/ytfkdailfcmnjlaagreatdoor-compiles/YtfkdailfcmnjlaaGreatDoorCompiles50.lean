/-
  A row of items turned about: what is written into a row.
-/
import Derived.Test.YtfkdailfcmnjlaaGreatDoorCompiles01
import Derived.Test.YtfkdailfcmnjlaaGreatDoorCompiles02
import Derived.Test.YtfkdailfcmnjlaaGreatDoorCompiles04
import Derived.Test.YtfkdailfcmnjlaaGreatDoorCompiles05
import Derived.Test.YtfkdailfcmnjlaaGreatDoorCompiles06
import Derived.Test.YtfkdailfcmnjlaaGreatDoorCompiles07
import Derived.Test.YtfkdailfcmnjlaaGreatDoorCompiles08
import Derived.Test.YtfkdailfcmnjlaaGreatDoorCompiles09
import Derived.Test.YtfkdailfcmnjlaaGreatDoorCompiles10
import Derived.Test.YtfkdailfcmnjlaaGreatDoorCompiles11
import Derived.Test.YtfkdailfcmnjlaaGreatDoorCompiles12
import Derived.Test.YtfkdailfcmnjlaaGreatDoorCompiles13
import Derived.Test.YtfkdailfcmnjlaaGreatDoorCompiles14
import Derived.Test.YtfkdailfcmnjlaaGreatDoorCompiles15
import Derived.Test.YtfkdailfcmnjlaaGreatDoorCompiles16
import Derived.Test.YtfkdailfcmnjlaaGreatDoorCompiles17
import Derived.Test.YtfkdailfcmnjlaaGreatDoorCompiles18
import Derived.Test.YtfkdailfcmnjlaaGreatDoorCompiles19
import Derived.Test.YtfkdailfcmnjlaaGreatDoorCompiles20
import Derived.Test.YtfkdailfcmnjlaaGreatDoorCompiles21
import Derived.Test.YtfkdailfcmnjlaaGreatDoorCompiles22
import Derived.Test.YtfkdailfcmnjlaaGreatDoorCompiles23
import Derived.Test.YtfkdailfcmnjlaaGreatDoorCompiles24
import Derived.Test.YtfkdailfcmnjlaaGreatDoorCompiles25
import Derived.Test.YtfkdailfcmnjlaaGreatDoorCompiles26
import Derived.Test.YtfkdailfcmnjlaaGreatDoorCompiles27
import Derived.Test.YtfkdailfcmnjlaaGreatDoorCompiles28
import Derived.Test.YtfkdailfcmnjlaaGreatDoorCompiles29
import Derived.Test.YtfkdailfcmnjlaaGreatDoorCompiles30
import Derived.Test.YtfkdailfcmnjlaaGreatDoorCompiles31
import Derived.Test.YtfkdailfcmnjlaaGreatDoorCompiles32
import Derived.Test.YtfkdailfcmnjlaaGreatDoorCompiles34
import Derived.Test.YtfkdailfcmnjlaaGreatDoorCompiles35
import Derived.Test.YtfkdailfcmnjlaaGreatDoorCompiles37
import Derived.Test.YtfkdailfcmnjlaaGreatDoorCompiles38
import Derived.Test.YtfkdailfcmnjlaaGreatDoorCompiles39
import Derived.Test.YtfkdailfcmnjlaaGreatDoorCompiles40
import Derived.Test.YtfkdailfcmnjlaaGreatDoorCompiles41
import Derived.Test.YtfkdailfcmnjlaaGreatDoorCompiles42
import Derived.Test.YtfkdailfcmnjlaaGreatDoorCompiles43
import Derived.Test.YtfkdailfcmnjlaaGreatDoorCompiles46
import Derived.Test.YtfkdailfcmnjlaaGreatDoorCompiles47
import Derived.Test.YtfkdailfcmnjlaaGreatDoorCompiles48
import Derived.Test.YtfkdailfcmnjlaaGreatDoorCompiles49
import Derived.Test.YtfkdailfcmnjlaaGreatDoorLays
import Derived.Test.YtfkdailfcmnjlaaGreatDoorLays2
import Derived.Deep.MidRow
import Derived.WalkKit
import Derived.Deep.QuietTactic
import Derived.BigQuiet
import Derived.WalkSpells
import GoSem.Op.String
import Derived.Deep.AppendLies
import Derived.Deep.RegionHeld3
import Derived.Deep.DrawnRows
import Derived.Deep.RegionHeldLaw
import Derived.Deep.RegionLaw
import Derived.Lib.ParseIntBCases
import Derived.Deep.OwnRows
import Derived.Lib.LaidTab
import Derived.Lib.AppendIntMem
import Derived.Shelf.Strings.Builder1
import Derived.Laws.CopyOwn
import Derived.Deep.DeepCutAuto
import Derived.WalkSmall
import Derived.Lib.AppendZerosOnto
import Derived.Deep.Upon
set_option linter.unusedVariables false
set_option linter.unusedSimpArgs false
namespace Go.Proofs.YtfkdailfcmnjlaaGreatDoor
open Go Go.RowKit
set_option maxRecDepth 100000

theorem own_there {base : Nat} {e : TypeId} {size n g cap : Nat} {w : World} {xs : List Value} (h : w.ownsRow base e size (.slice (some ⟨g, 0, none⟩) n cap) n xs) {o m : Nat} (hl : o + m ≤ n * size) : w.there g o m := by
  obtain ⟨hx, hr⟩ := h
  rcases hr with ⟨e, _⟩ | ⟨g', cap', cur, e, b1, b2, b3, b4, b5, b6⟩
  · simp at e
  · simp only [Value.slice.injEq, Option.some.injEq, Addr.mk.injEq, and_true, true_and] at e
    obtain ⟨rfl, rfl⟩ := e
    have hc : n * size ≤ cap * size := Nat.mul_le_mul_right _ b3
    intro j hj
    exact ⟨by rw [cell_of_row w g (o + j) _ _ _ b2]; simp; omega, by simp [World.frozen?, b2]⟩
/-- Turned about from both ends so far. -/
def Turned (ys zs : List Yt) (i : Nat) : Prop := zs.length = ys.length ∧ ∀ m, m < ys.length → zs.getD m noY = if m < i ∨ ys.length ≤ m + i then ys.getD (ys.length - 1 - m) noY else ys.getD m noY
theorem Turned.start (ys : List Yt) : Turned ys ys 0 := ⟨rfl, fun m hm => by rw [if_neg (by omega)]⟩
theorem Turned.next {ys zs : List Yt} {i : Nat} (h : Turned ys zs i) (hi : i + 1 + i < ys.length) : Turned ys ((zs.set i (zs.getD (ys.length - 1 - i) noY)).set (ys.length - 1 - i) (zs.getD i noY)) (i + 1) := by
  have hl := h.1
  refine ⟨by simp [hl], fun m hm => ?_⟩
  by_cases e1 : ys.length - 1 - i = m
  · subst e1
    rw [getD_set_eq (by simp; omega), h.2 i (by omega), if_neg (by omega), if_pos (by omega)]
    congr 1; omega
  · rw [getD_set_ne e1]
    by_cases e2 : i = m
    · subst e2
      rw [getD_set_eq (by omega), h.2 _ (by omega), if_neg (by omega), if_pos (by omega)]
    · rw [getD_set_ne e2, h.2 m hm]
      by_cases q : m < i ∨ ys.length ≤ m + i
      · rw [if_pos q, if_pos (by omega)]
      · rw [if_neg q, if_neg (by omega)]
end Go.Proofs.YtfkdailfcmnjlaaGreatDoor
