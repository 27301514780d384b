/-
  The reference's small functions of lists of words answer as plain Lean functions do.
-/
import Derived.Test.YtfkdailfcmnjlaaGreatDoorTells01
import Derived.Test.YtfkdailfcmnjlaaGreatDoorProg
import Derived.WalkKit
import Derived.Deep.QuietTactic
import Derived.BigQuiet
import Derived.WalkSpells
set_option linter.unusedVariables false
set_option linter.unusedSimpArgs false
namespace Go.Proofs.YtfkdailfcmnjlaaGreatDoor
open Go Go.RowKit
set_option maxRecDepth 100000

abbrev S (l : List UInt8) : Value := .string ⟨l.toArray⟩

theorem ret_bool {a b : Bool} (h : a = b) : Ending.returned (.bool a) = .returned (.bool b) := by rw [h]
theorem ret_int {k : IntKind} {a b : Int} (h : a = b) : Ending.returned (.int k a) = .returned (.int k b) := by rw [h]

end Go.Proofs.YtfkdailfcmnjlaaGreatDoor
