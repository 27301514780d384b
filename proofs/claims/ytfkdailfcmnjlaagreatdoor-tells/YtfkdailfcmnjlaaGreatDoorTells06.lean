/-
  The reference's functions that find the words of a text answer as the plain lexer does.
-/
import Derived.Test.YtfkdailfcmnjlaaGreatDoorTells01
import Derived.Test.YtfkdailfcmnjlaaGreatDoorTells04
import Derived.Test.YtfkdailfcmnjlaaGreatDoorTells05
import Derived.WalkKit
import Derived.Deep.QuietTactic
import Derived.BigQuiet
import Derived.WalkSpells
import GoSem.Op.String
set_option linter.unusedVariables false
set_option linter.unusedSimpArgs false
namespace Go.Proofs.YtfkdailfcmnjlaaGreatDoor
open Go Go.RowKit
set_option maxRecDepth 100000

theorem binOp_string_gtr (t : TypeId) (a b : ByteArray) : binOp .gtr t (.string a) (.string b) = pure (.bool (!Op.bytesLess a.toList b.toList && !a.toList == b.toList)) := by simp [binOp, Op.stringOp]
attribute [local go_sem] binOp_string_gtr

theorem cut_ex (l : List UInt8) (a b : Nat) : (ByteArray.mk l.toArray).extract a b = ⟨(cut l a b).toArray⟩ := ByteArray.extract_mk l a b
theorem cut_len (l : List UInt8) (a b : Nat) (h : b ≤ l.length) : (cut l a b).length = b - a := by
  unfold cut; simp; omega
theorem cut_stop (p : UInt8 → Bool) (l : List UInt8) (a : Nat) : ∀ c ∈ cut l a (stop p l a), p c = true := by
  intro c hc
  unfold cut stop at hc
  have h1 : a + ((l.drop a).takeWhile p).length - a = ((l.drop a).takeWhile p).length := by omega
  rw [h1] at hc
  have h2 : (l.drop a).take ((l.drop a).takeWhile p).length = (l.drop a).takeWhile p := by
    have := (List.takeWhile_prefix (l := l.drop a) p)
    exact (List.prefix_iff_eq_take.1 this).symm
  rw [h2] at hc
  have h3 := List.all_takeWhile (p := p) (l := l.drop a)
  exact List.all_eq_true.1 h3 c hc

theorem cell_set_same (w : World) (b i : Nat) (v : Value) (h : (w.cell? ⟨b, i, none⟩).isSome = true) : (w.setCell ⟨b, i, none⟩ v).cell? ⟨b, i, none⟩ = some v := by
  cases e : w.cell? ⟨b, i, none⟩ with
  | none => rw [e] at h; simp at h
  | some u => exact World.cell?_setCell_same _ _ _ e
theorem cell_set_off (w : World) (b i j : Nat) (v : Value) (h : i ≠ j) : (w.setCell ⟨b, i, none⟩ v).cell? ⟨b, j, none⟩ = w.cell? ⟨b, j, none⟩ :=
  World.cell?_setCell_other _ _ _ _ (by simp [h])
theorem some_set (w : World) (b i j : Nat) (v : Value) (h : (w.cell? ⟨b, j, none⟩).isSome = true) : ((w.setCell ⟨b, i, none⟩ v).cell? ⟨b, j, none⟩).isSome = true := by
  by_cases e : i = j
  · subst e; rw [cell_set_same _ _ _ _ h]; rfl
  · rw [cell_set_off _ _ _ _ _ e]; exact h

end Go.Proofs.YtfkdailfcmnjlaaGreatDoor
